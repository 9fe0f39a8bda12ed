import PyProof.Rows.All
import Wide.All
import OpenK.AllK
import Wide.FinOn
import Lean
import PyProof.EqAt
import PyProof.EqKinds
import PyProof.TupleCall
import PyProof.ExcInit
import PyProof.InstStoreFacts
import PyProof.StrLawsFirst
import PyProof.StrLawsIn
import KE.KLam
import PyProof.ListMulRoad
import PyProof.Rows.ListMul
import PyProof.ZipIter
import PyProof.Draws
import PyProof.ListStr
import PyProof.DictWalks
import PyProof.DictTruth
import PyProof.ListRange
import PyProof.StrLaws
import PyProof.StrLawsIdx
import PyProof.AttrMissHeap
import PySem.Challenge.RW_striproam_k29_looker_of_pairs
set_option linter.all false
set_option maxRecDepth 100000
set_option maxHeartbeats 4000000
set_option Elab.async false
set_option linter.all false
set_option maxRecDepth 100000
set_option genSizeOf false
theorem Mc.bn1{α:Type}{P:List α->Prop}(h:∀ a,P [a]):∀ us:List α,us.length=1->P us
 | [a],_=>h a
theorem Mc.bn2{α:Type}{P:List α->Prop}(h:∀ a b,P [a,b]):∀ us:List α,us.length=2->P us
 | [a,b],_=>h a b
theorem Mc.bn3{α:Type}{P:List α->Prop}(h:∀ a b c,P [a,b,c]):∀ us:List α,us.length=3->P us
 | [a,b,c],_=>h a b c
theorem Mc.bn5{α:Type}{P:List α->Prop}(h:∀ a b c d e,P [a,b,c,d,e]):∀ us:List α,us.length=5->P us
 | [a,b,c,d,e],_=>h a b c d e
open PySem.W (Frag)
noncomputable section
namespace L2
open PySem PySem.Spec PyProof.Rows
abbrev Key:=Sum Int Str
noncomputable def lH:Key->Value->Bool
 | .inl k,v=>Value.isInt k v
 | .inr x,v=>Value.isStrOf x v
noncomputable def aGL(w:World):Key->Int
 | .inl k=>hashInt k
 | .inr x=>hashStr w x
theorem keyIs_shape:∀ {k:Key} {v:Value},lH k v=true->(∃ i t,k=Sum.inl i/\v=Value.int i t)\/(∃ x t,k=Sum.inr x/\v=Value.str x t)
 | .inl i,v,h=>by
  obtain ⟨t,e⟩:=Value.isInt_shape (k:=i) (v:=v) h
  exact .inl ⟨i,t,rfl,e⟩
 | .inr x,v,h=>by
  obtain ⟨t,e⟩:=Value.isStrOf_shape (x:=x) (v:=v) h
  exact .inr ⟨x,t,rfl,e⟩
theorem u4(i:Int)(t:Tok):lH (.inl i) (.int i t)=true:=by simp[lH,Value.isInt]
theorem u5(x:Str)(t:Tok):lH (.inr x) (.str x t)=true:=by simp[lH,Value.isStrOf]
theorem aCV(a b:Int):decide ((Sum.inl a:Key)=Sum.inl b)=(a == b):=by
 by_cases e:a=b
 ·subst e;simp
 ·have h:¬ (Sum.inl a:Key)=Sum.inl b:=fun q=>e (Sum.inl.inj q)
  rw[decide_eq_false h]
  exact (beq_eq_false_iff_ne.mpr e).symm
theorem aCW(a b:Str):decide ((Sum.inr a:Key)=Sum.inr b)=decide (a=b):=by
 by_cases e:a=b
 ·subst e;simp
 ·have h:¬ (Sum.inr a:Key)=Sum.inr b:=fun q=>e (Sum.inr.inj q)
  rw[decide_eq_false h,decide_eq_false e]
theorem aCX(a:Int)(b:Str):decide ((Sum.inl a:Key)=Sum.inr b)=false:=decide_eq_false (fun q=>nomatch q)
theorem aCY(a:Str)(b:Int):decide ((Sum.inr a:Key)=Sum.inl b)=false:=decide_eq_false (fun q=>nomatch q)
noncomputable def cP(prog:Program)(w:World):PySem.KeyKind prog w Key where
 is:=lH
 hash:=aGL w
 inj:=fun v a b ha hb=>by
  rcases keyIs_shape ha with ⟨i,t,rfl,rfl⟩|⟨x,t,rfl,rfl⟩
  ·rcases keyIs_shape hb with ⟨j,u,rfl,e⟩|⟨y,u,rfl,e⟩
   · injection e with e1 _; rw [e1]
   · exact nomatch e
  ·rcases keyIs_shape hb with ⟨j,u,rfl,e⟩|⟨y,u,rfl,e⟩
   · exact nomatch e
   · injection e with e1 _; rw [e1]
 byValue:=fun k v h=>by
  rcases keyIs_shape h with ⟨i,t,rfl,rfl⟩|⟨x,t,rfl,rfl⟩<;>rfl
 pyHash:=fun hv h=>by
  rcases keyIs_shape hv with ⟨i,t,rfl,rfl⟩|⟨x,t,rfl,rfl⟩
  ·exact wpAny_pyHash_int h
  ·exact wpAny_pyHash_str h
 eqBool:=fun hu hv h=>by
  rcases keyIs_shape hu with ⟨i,t,rfl,rfl⟩|⟨x,t,rfl,rfl⟩
  ·rcases keyIs_shape hv with ⟨j,u,rfl,rfl⟩|⟨y,u,rfl,rfl⟩
   · rw [aCV] at h; exact wpAny_eqBool_int h
   · rw [aCX] at h; exact SeqAt.EqAt.int_str i t y u _ _ _ _ h
  ·rcases keyIs_shape hv with ⟨j,u,rfl,rfl⟩|⟨y,u,rfl,rfl⟩
   · rw [aCY] at h; exact SeqAt.EqAt.str_int x t j u _ _ _ _ h
   · rw [aCW] at h; exact wpAny_eqBool_str h
 «strs»:=fun k x t v h=>by
  rcases keyIs_shape h with ⟨i,u,rfl,e⟩|⟨y,u,rfl,e⟩
  ·exact nomatch e
  ·injection e with e1 _
   subst e1
   cases v<;>rfl
theorem r0(prog:Program)(w:World)(i:Int)(t:Tok):(cP prog w).is (.inl i) (.int i t)=true:=u4 i t
theorem r6(prog:Program)(w:World)(x:Str)(t:Tok):(cP prog w).is (.inr x) (.str x t)=true:=u5 x t
end L2
namespace L2
open PySem PySem.Spec PyProof.Rows
inductive V where
 | non|bl (b:Bool)|int (i:Int)|str (x:Str)|byt (b:Array UInt8)|flt (b:UInt64)|ref (a:Addr)|ty (n:String)
 deriving DecidableEq
def aR:V->Value->Prop
 | .non,u=>u=Value.none
 | .bl b,u=>u=Value.bool b
 | .int i,u=>∃ t,u=Value.int i t
 | .str x,u=>∃ t,u=Value.str x t
 | .byt b,u=>∃ t,u=Value.bytes b t
 | .flt b,u=>∃ t,u=Value.float b t
 | .ref a,u=>u=Value.ref a
 | .ty n,u=>u=Value.type n
abbrev aV:List V->List Value->Prop:=Paired aR
theorem aV.length{xs:List V}{us:List Value}(r:aV xs us):xs.length=us.length:=Paired.length r
theorem aV.get:∀ {xs:List V} {us:List Value} {i:Nat} {x:V},aV xs us->xs[i]? = some x->∃ u,us[i]? = some u/\aR x u
 | _,_,_,_,.nil,e=>by simp at e
 | _,_,0,_,.cons r _,e=>by simp at e;subst e;exact ⟨_,rfl,r⟩
 | _,_,i+1,x,.cons _ t,e=>by
  obtain ⟨u,h1,h2⟩:=aV.get (i:=i) (x:=x) t (by simpa using e)
  exact ⟨u,by simpa using h1,h2⟩
theorem aV.set{x:V}{u:Value}(r:aR x u):∀ {xs:List V} {us:List Value} (i:Nat),aV xs us->aV (xs.set i x) (us.set i u)
 | _,_,_,.nil=>.nil
 | _,_,0,.cons _ t=>.cons r t
 | _,_,i+1,.cons q t=>.cons q (aV.set r i t)
theorem aV.append:∀ {xs ys:List V} {us ws:List Value},aV xs us->aV ys ws->aV (xs++ys) (us++ws)
 | _,_,_,_,.nil,s=>s
 | _,_,_,_,.cons r t,s=>.cons r (aV.append t s)
theorem aV.take:∀ {xs:List V} {us:List Value} (n:Nat),aV xs us->aV (xs.take n) (us.take n)
 | _,_,0,_=>.nil
 | _,_,_+1,.nil=>.nil
 | _,_,n+1,.cons r t=>.cons r (aV.take n t)
theorem aV.drop:∀ {xs:List V} {us:List Value} (n:Nat),aV xs us->aV (xs.drop n) (us.drop n)
 | _,_,0,r=>r
 | _,_,_+1,.nil=>.nil
 | _,_,n+1,.cons _ t=>aV.drop n t
def gX:Option V->Option Value->Prop
 | some v,some u=>aR v u
 | none,none=>True
 | _,_=>False
def KV{κ:Type}:List (κ×V)->List (κ×Value)->Prop:=Paired fun (p:κ×V) (q:κ×Value)=>p.1=q.1/\aR p.2 q.2
noncomputable def kV:Key->V
 | .inl i=>.int i
 | .inr x=>.str x
inductive HO where
 | lst (xs:List V)
 | tup (xs:List V)
 | dK (kvs:List (Key×V))|dT (kvs:List (List Key×V))
 | set (S:Int->Bool) (n:Nat)
 | ins (C dx:Addr) (fs:List (Str×V))
 | own (x:Addr)
 | xd (fs:List (Str×V))
 | met (f x:Addr)
 | rng (lo hi:Int)
 | frz (o:Obj) (u:HO)
 | tbl (qs:List (Pos×Str))
 | cod (q:Str)
 | ext (φ:Heap->Prop)
abbrev Hp:=Addr->Option HO
noncomputable def upd(H:Hp)(a:Addr)(o:HO):Hp:=fun b=>if b=a then some o else H b
theorem aS{H:Hp}{a:Addr}{o:HO}:upd H a o a=some o:=by unfold upd;rw[if_pos rfl]
theorem aK{H:Hp}{a b:Addr}{o:HO}(h:b≠a):upd H a o b=H b:=by unfold upd;rw[if_neg h]
theorem lI{H:Hp}{a:Addr}{o u:HO}:upd (upd H a o) a u=upd H a u:=by
 funext b;unfold upd;split<;>rfl
theorem bK{H:Hp}{a b:Addr}{o:HO}(h:H a=some o)(h':H b=none):a≠b:=by
 intro e;subst e;rw[h] at h';cases h'
section
variable(P:Program)(w:World)
def bW(H:Hp)(h:Heap)(a:Addr):HO->Prop
 | .lst xs=>xs.length<=sizeLine/\∃ (its:List Value) (n:Nat),aV xs its/\h.get? a=some {cls:=.type "list",data:=.seq its.toArray n}
 | .tup xs=>xs.length<=sizeLine/\∃ its:List Value,aV xs its/\IsTup h a its.toArray
 | .dK kvs=>kvs.length<=sizeLine/\(a == sysModules)=false/\∃ vs,KV kvs vs/\h.DictOf (cP P w) a vs
 | .dT kvs=>kvs.length<=sizeLine/\(a == sysModules)=false/\∃ xs:List (List Key×Addr×Value),
  Paired (fun (p:List Key×V) (q:List Key×Addr×Value)=>p.1=q.1/\H q.2.1=some (.tup (p.1.map kV))/\aR p.2 q.2.2) kvs xs /\
  ∃ o es ep,h.get? a=some o/\o.ExactDict/\o.data=.dict es ep/\es.toList=xs.map (entryOfKey (tupleKind (cP P w)))/\(xs.map (·.1)).Nodup
 | .set S n=>h.SetOf (intKind P w) a S n
 | .ins C dx fs=>H dx=some (.own a)/\fs.length<=1000/\dx≠a/\h.get? a=some (PySem.W.instObj C dx) /\
  ∃ mA,h.Ns1 dx mA/\(∀ f,gX (fs.lookup f) (mA f))/\PySem.Within mA (fs.map (·.1))
 | .own _=>∃ o,h.get? a=some o
 | .xd fs=>∃ mA,h.Ns1 a mA/\∀ f,gX (fs.lookup f) (mA f)
 | .rng lo hi=>∃ t u v,h.get? a=some {cls:=.type "range",data:=.fields #[.int lo t,.int hi u,.int 1 v]}
 | .frz o u=>h.get? a=some o/\bW H h a u
 | .tbl qs=>∃ ps:Array Value,h.get? a=some {cls:=.none,data:=.fields ps}/\TriplesOk ps.toList/\∀ p∈qs,codeAmong p.1 ps.toList=none\/∃ c,codeAmong p.1 ps.toList=some (.ref c)/\H c=some (.cod p.2)
 | .cod q=>h.CodeRec (.ref a) q
 | .met f x=>h.get? a=some (PySem.W.methodObj (.ref f) (.ref x))
 | .ext φ=>φ h/\(∃ o,h.get? a=some o)/\∀ h1 h2:Heap,φ h1->(∀ o,h1.get? a=some o->h2.get? a=some o)->φ h2
def HOk(H:Hp)(h:Heap):Prop:=∀ a o,H a=some o->bW P w H h a o
end
section
variable{P:Program}{w:World}{H H':Hp}{h h':Heap}{a:Addr}{o:HO}
theorem bW.lt(x:bW P w H h a o):a < h.objs.size:=by
 cases o with
 | lst xs=>obtain ⟨_,_,_,_,e⟩:=x;exact Heap.lt_size e
 | tup xs=>obtain ⟨_,_,_,p⟩:=x;exact p.lt
 | dK kvs=>obtain ⟨_,_,_,_,o,_,_,e,_⟩:=x;exact Heap.lt_size e
 | dT kvs=>obtain ⟨_,_,_,_,o,_,_,e,_⟩:=x;exact Heap.lt_size e
 | set S n=>obtain ⟨o,_,_,_,e,_⟩:=x;exact Heap.lt_size e
 | ins C dx fs=>obtain ⟨_,_,_,e,_⟩:=x;exact Heap.lt_size e
 | own y=>obtain ⟨_,e⟩:=x;exact Heap.lt_size e
 | xd fs=>obtain ⟨_,⟨_,_,_,e,_⟩,_⟩:=x;exact Heap.lt_size e
 | rng lo hi=>obtain ⟨_,_,_,e⟩:=x;exact Heap.lt_size e
 | frz ob u=>obtain ⟨e,_⟩:=x;exact Heap.lt_size e
 | tbl qs=>obtain ⟨ps,e,_⟩:=x;exact Heap.lt_size e
 | cod q=>obtain ⟨c,o,vs,t,e,ho,_⟩:=x;cases e;exact Heap.lt_size ho
 | met f y=>exact Heap.lt_size (show h.get? a=some _ from x)
 | ext φ=>obtain ⟨_,⟨_,e⟩,_⟩:=x;exact Heap.lt_size e
theorem Paired.mapP{α β:Type}{F G:α->β->Prop}:∀ {l₁:List α} {l₂:List β},Paired F l₁ l₂->(∀ a b,F a b->G a b)->Paired G l₁ l₂
 | _,_,.nil,_=>.nil
 | _,_,.cons r t,f=>.cons (f _ _ r) (Paired.mapP t f)
theorem bW.stay(x:bW P w H h a o)(k:∀ b u,(b=a\/H b=some (.own a))->h.get? b=some u->h'.get? b=some u)
  (ho:∀ b,H b=some (.own a)->H' b=some (.own a)) (hc:∀ b q,H b=some (.cod q)->H' b=some (.cod q)) (ht:∀ b xs,H b=some (.tup xs)->H' b=some (.tup xs)):bW P w H' h' a o:=by
 induction o with
 | lst xs=>obtain ⟨z,its,n,r,e⟩:=x;exact ⟨z,its,n,r,k _ _ (.inl rfl) e⟩
 | tup xs=>obtain ⟨z,its,r,ob,e,c⟩:=x;exact ⟨z,its,r,ob,k _ _ (.inl rfl) e,c⟩
 | dK kvs=>obtain ⟨z,y,vs,r,ob,es,ep,e,c⟩:=x;exact ⟨z,y,vs,r,ob,es,ep,k _ _ (.inl rfl) e,c⟩
 | dT kvs=>
  obtain ⟨z,y,xs,r,ob,es,ep,e,c⟩:=x
  exact ⟨z,y,xs,Paired.mapP r fun p q z=>⟨z.1,ht _ _ z.2.1,z.2.2⟩,ob,es,ep,k _ _ (.inl rfl) e,c⟩
 | set S n=>obtain ⟨ob,es,ep,t,e,c⟩:=x;exact ⟨ob,es,ep,t,k _ _ (.inl rfl) e,c⟩
 | ins C dx fs=>
  obtain ⟨d,z,ne,e,mA,⟨od,es,ep,e2,c⟩,r⟩:=x
  exact ⟨ho _ d,z,ne,k _ _ (.inl rfl) e,mA,⟨od,es,ep,k _ _ (.inr d) e2,c⟩,r⟩
 | own y=>obtain ⟨ob,e⟩:=x;exact ⟨ob,k _ _ (.inl rfl) e⟩
 | xd fs=>obtain ⟨mA,⟨od,es,ep,e,c⟩,r⟩:=x;exact ⟨mA,⟨od,es,ep,k _ _ (.inl rfl) e,c⟩,r⟩
 | rng lo hi=>obtain ⟨t,u,v,e⟩:=x;exact ⟨t,u,v,k _ _ (.inl rfl) e⟩
 | frz ob u ih=>obtain ⟨e,q⟩:=x;exact ⟨k _ _ (.inl rfl) e,ih q⟩
 | tbl qs=>
  obtain ⟨ps,e,t,r⟩:=x
  refine ⟨ps,k _ _ (.inl rfl) e,t,fun p hp=>?_⟩
  rcases r p hp with z|⟨c,z,z2⟩
  · exact .inl z
  · exact .inr ⟨c, z, hc _ _ z2⟩
 | cod q=>
  obtain ⟨c,o,vs,t,e,ho,r⟩:=x
  cases e
  exact ⟨_,o,vs,t,rfl,k _ _ (.inl rfl) ho,r⟩
 | met f y=>
  have e:h.get? a=some (PySem.W.methodObj (.ref f) (.ref y)):=x
  show h'.get? a=some (PySem.W.methodObj (.ref f) (.ref y))
  exact k a _ (.inl rfl) e
 | ext φ=>obtain ⟨p,⟨o,e⟩,st⟩:=x;exact ⟨st _ _ p fun o q=>k _ _ (.inl rfl) q,⟨o,k _ _ (.inl rfl) e⟩,st⟩
theorem HOk.lt(x:HOk P w H h)(e:H a=some o):a < h.objs.size:=(x a o e).lt
theorem HOk.fresh(x:HOk P w H h)(e:h.objs.size<=a):H a=none:=by
 cases q:H a with
 | none=>rfl
 | some u=>exact absurd (Nat.lt_of_lt_of_le (x.lt q) e) (Nat.lt_irrefl _)
theorem HOk.kept(x:HOk P w H h)(k:∀ b u,h.get? b=some u->h'.get? b=some u):HOk P w H h':=fun a o e=>
 (x a o e).stay (fun b u _ q=>k b u q) (fun _ q=>q) (fun _ _ q=>q) fun _ _ q=>q
theorem HOk.laid(x:HOk P w H h)(k:∀ b u,h.get? b=some u->h'.get? b=some u)(hp:h.objs.size<=a)(new:bW P w (upd H a o) h' a o):HOk P w (upd H a o) h':=fun b u e=>by
 have hn:=x.fresh hp
 by_cases hb:b=a
 ·subst hb;rw[aS] at e;cases e;exact new
 ·rw[aK hb] at e
  exact (x b u e).stay (fun c v _ q=>k c v q) (fun c q=>by rw[aK (bK q hn)];exact q) (fun c xs q=>by rw[aK (bK q hn)];exact q) fun c xs q=>by rw[aK (bK q hn)];exact q
end
def Rd(H:Hp)(a:Addr)(u:HO):Prop:=H a=some u\/∃ o,H a=some (.frz o u)
theorem Rd.ok{P:Program}{w:World}{H:Hp}{h:Heap}{a:Addr}{u:HO}(r:Rd H a u)(x:HOk P w H h):bW P w H h a u:=by
 rcases r with r|⟨o,r⟩
 ·exact x a u r
 ·obtain ⟨_,q⟩:=x a _ r
  exact q
def Mut:Option HO->Prop
 | some (.lst _)=>True
 | some (.dK _)=>True
 | some (.dT _)=>True
 | some (.set _ _)=>True
 | some (.ins _ _ _)=>True
 | some (.ext _)=>True
 | _=>False
section
variable{P:Program}{w:World}{H:Hp}{h h':Heap}{x e:Addr}{o':HO}
theorem HOk.write(ok:HOk P w H h)(mu:Mut (H x))(he:e=x\/H e=some (.own x))(k:∀ b u,b≠e->h.get? b=some u->h'.get? b=some u)(heo:∃ u,h'.get? e=some u)
  (new:bW P w (upd H x o') h' x o'):HOk P w (upd H x o') h':=fun b u q=>by
 have nown:∀ c y,H c=some (.own y)->c≠x:=fun c y r z=>by subst z;rw[r] at mu;exact mu
 have ntup:∀ c xs,H c=some (.tup xs)->c≠x:=fun c xs r z=>by subst z;rw[r] at mu;exact mu
 have ncod:∀ c xs,H c=some (.cod xs)->c≠x:=fun c xs r z=>by subst z;rw[r] at mu;exact mu
 by_cases hb:b=x
 ·subst hb;rw[aS] at q;cases q;exact new
 ·rw[aK hb] at q
  by_cases hbe:b=e
  ·have q':H b=some (.own x):=by
    rcases he with z|z
    · exact absurd (hbe.trans z) hb
    · rw [hbe]; exact z
   rw[q] at q';cases q'
   obtain ⟨v,hv⟩:=heo
   exact ⟨v,by rw[hbe];exact hv⟩
  ·refine (ok b u q).stay (fun c v hc r=>k c v ?_ r) (fun c r=>by rw[aK (nown c b r)];exact r) (fun c xs r=>by rw[aK (ncod c xs r)];exact r) fun c xs r=>by rw[aK (ntup c xs r)];exact r
   rcases hc with rfl|hc
   ·exact hbe
   ·rintro rfl
    rcases he with z|z
    · exact nown c b hc z
    · rw [hc] at z; cases z; exact hb rfl
end
structure Un(fs ex:List Addr)(H H':Hp)(h h':Heap):Prop where
 keep:∀ b o,h.get? b=some o->H b=none->b∉fs->b∉ex->h'.get? b=some o
 slot:∀ b o,h.get? b=some o->H b=none->b∈fs->b∉ex->∃ sl,h'.get? b=some {o with slots:=sl}
 free:∀ b o,h.get? b=some o->H b=none->b∉ex->H' b=none
 there:∀ b o,h.get? b=some o->b∉ex->∃ o',h'.get? b=some o'
 tups:∀ b xs,H b=some (.tup xs)->H' b=some (.tup xs)
 frzs:∀ b o u,H b=some (.frz o u)->H' b=some (.frz o u)
 tbls:∀ b ps,H b=some (.tbl ps)->H' b=some (.tbl ps)
section
variable{fs fs' ex ex':List Addr}{H H1 H2:Hp}{h h1 h2 h':Heap}{a x e:Addr}{o:HO}
theorem Un.any(u:Un fs ex H H1 h h1){b:Addr}{ob:Obj}(q:h.get? b=some ob)(n:H b=none)(hx:b∉ex):∃ sl,h1.get? b=some {ob with slots:=sl}:=by
 by_cases hb:b∈fs
 · exact u.slot b ob q n hb hx
 · exact ⟨ob.slots, u.keep b ob q n hb hx⟩
theorem Un.trans(a:Un fs ex H H1 h h1)(b:Un fs ex H1 H2 h1 h2):Un fs ex H H2 h h2 where
 keep:=fun c ob q n hc hx=>b.keep c ob (a.keep c ob q n hc hx) (a.free c ob q n hx) hc hx
 slot:=fun c ob q n hc hx=>by
  obtain ⟨sl,e1⟩:=a.slot c ob q n hc hx
  obtain ⟨sl',e2⟩:=b.slot c _ e1 (a.free c ob q n hx) hc hx
  exact ⟨sl',e2⟩
 free:=fun c ob q n hx=>by
  obtain ⟨o',e1⟩:=a.there c ob q hx
  exact b.free c o' e1 (a.free c ob q n hx) hx
 there:=fun c ob q hx=>by
  obtain ⟨o',e1⟩:=a.there c ob q hx
  exact b.there c o' e1 hx
 tups:=fun c xs q=>b.tups c xs (a.tups c xs q)
 frzs:=fun c ob xs q=>b.frzs c ob xs (a.frzs c ob xs q)
 tbls:=fun c ps q=>b.tbls c ps (a.tbls c ps q)
theorem Un.kept(k:∀ b u,h.get? b=some u->h'.get? b=some u):Un fs ex H H h h':=
 ⟨fun b ob q _ _ _=>k b ob q,fun b ob q _ _ _=>⟨ob.slots,k b ob q⟩,fun _ _ _ n _=>n,fun b ob q _=>⟨ob,k b ob q⟩,fun _ _ q=>q,fun _ _ _ q=>q,fun _ _ q=>q⟩
theorem Un.refl:Un fs ex H H h h:=Un.kept fun _ _ q=>q
theorem Un.laid(k:∀ b u,h.get? b=some u->h'.get? b=some u)(hp:h.objs.size<=a)(hn:H a=none):Un fs ex H (upd H a o) h h' where
 keep:=fun b u q _ _ _=>k b u q
 slot:=fun b u q _ _ _=>⟨u.slots,k b u q⟩
 free:=fun b u q n _=>by rw[aK (Nat.ne_of_lt (Nat.lt_of_lt_of_le (Heap.lt_size q) hp))];exact n
 there:=fun b u q _=>⟨u,k b u q⟩
 tups:=fun b xs q=>by rw[aK (bK q hn)];exact q
 frzs:=fun b u xs q=>by rw[aK (bK q hn)];exact q
 tbls:=fun b ps q=>by rw[aK (bK q hn)];exact q
theorem Un.write(mu:Mut (H x))(he:e=x\/H e=some (.own x))(k:∀ b u,b≠e->h.get? b=some u->h'.get? b=some u)(heo:∃ u,h'.get? e=some u):Un fs ex H (upd H x o) h h':=by
 have hx:∀ b,H b=none->b≠x:=fun b n z=>by subst z;rw[n] at mu;exact mu
 have hb:∀ b,H b=none->b≠e:=fun b n z=>by
  subst z
  rcases he with r|r
  · exact hx b n r
  · rw [n] at r; cases r
 have hm:∀ b u,H b=some u->¬ Mut (some u)->b≠x:=fun b u q nm z=>by subst z;rw[q] at mu;exact nm mu
 refine ⟨fun b u q n _ _=>k b u (hb b n) q,fun b u q n _ _=>⟨u.slots,k b u (hb b n) q⟩,fun b u q n _=>by rw[aK (hx b n)];exact n,fun b u q _=>?_,
  fun b xs q=>by rw[aK (hm b _ q fun z=>z)];exact q,fun b u xs q=>by rw[aK (hm b _ q fun z=>z)];exact q,fun b ps q=>by rw[aK (hm b _ q fun z=>z)];exact q⟩
 by_cases hbe:b=e
 ·subst hbe;exact heo
 ·exact ⟨u,k b u hbe q⟩
end
noncomputable def trk(h:Heap)(H:Hp):List Addr:=(List.range h.objs.size).filter fun a=>(H a).isSome
def jM(h:Heap)(H:Hp):Heap:=PySem.W.hideAll h (trk h H)
theorem vA(h:Heap)(H:Hp):(jM h H).objs.size=h.objs.size:=PySem.W.hideAll_size _ _
theorem xW{h:Heap}{H:Hp}{b:Addr}{o:Obj}(e:h.get? b=some o)(n:H b=none):(jM h H).get? b=some o:=
 PySem.W.hideAll_get _ e fun hm=>by
  have q:(H b).isSome=true:=(List.mem_filter.mp hm).2
  rw[n] at q;simp at q
theorem aA0{h:Heap}{H:Hp}{b:Addr}{o:Obj}(e:(jM h H).get? b=some o):h.get? b=some o/\H b=none:=by
 have e':h.get? b=some o:=PySem.W.of_hideAll (trk h H) e
 refine ⟨e',?_⟩
 cases q:H b with
 | none=>rfl
 | some x=>
  have hm:b∈trk h H:=List.mem_filter.mpr ⟨List.mem_range.mpr (Heap.lt_size e'),by simp[q]⟩
  have z:(jM h H).get? b=none:=PySem.W.hideAll_none (trk h H) hm
  rw[z] at e;cases e
def aA1(g h:Heap)(L:Addr):List (Addr×Obj):=(List.range h.objs.size).filterMap fun a=>if a=L\/(g.get? a).isSome=true then none else (h.get? a).map fun o=>(a,o)
def rest(g h:Heap)(L d:Addr):List (Addr×Obj):=(aA1 g h L).filter fun p=>decide (p.1≠d)
end L2
namespace L2
open PySem PySem.Spec PyProof.Rows
structure Mod(K:Frag)(mg:Str->Option Value)(base:Heap):Prop where
 kin:K.In base
 glob:base.Ns mainGlobals mg
 blt:∃ mb,base.Ns builtinsNs mb/\∀ x:Str,x≠"__name__"->mb x=bootBuiltins x
 nolimit:base.NoLimit
structure Cx where
 prog:Program
 w:World
 K:Frag
 mg:Str->Option Value
 base:Heap
 A:Around
 N:List Str
 s₀:Shared
 H₀:Hp
 env:Env
 outer:List Env
 stack:List Env
 ex:List Addr
 fn:Str->Bool
 calm:Bool
 pn:List (Addr×Obj)
 xe:Value->Shared->Prop
noncomputable def frs(l:List Env):List Addr:=l.filterMap (·.frame)
abbrev Cx.fs(X:Cx):List Addr:=frs X.outer
def Vis(sc:Scope)(x:Str):Prop:=sc.names.lookup x=some .local\/sc.names.lookup x=some .cell\/sc.names.lookup x=some .free
def Loc(sc:Scope)(x:Str):Prop:=sc.names.lookup x=some .local\/sc.names.lookup x=some .cell
def aGM(env:Env)(h:Heap)(m:Str->Option Value)(x:Str)(u:Value):Prop:=
 (env.kindOf x=some .local/\m x=some u)\/((env.kindOf x=some .cell\/env.kindOf x=some .free)/\∃ c,env.cells.lookup x=some c/\h.IsCell c (some u))
structure Cx.Ok(X:Cx):Prop where
 mod:Mod X.K X.mg X.base
 kind:X.env.scope.kind=.function
 glob:X.env.globals=mainGlobals
 blt:X.env.builtins=builtinsNs
 above:X.s₀.heap.objs.size<=X.env.locals
 inj:∀ x y c,X.env.cells.lookup x=some c->X.env.cells.lookup y=some c->x=y
 has:∀ x,(X.env.kindOf x=some .cell\/X.env.kindOf x=some .free)->∃ c,X.env.cells.lookup x=some c
 cab:∀ x c,X.fn x=true->X.env.cells.lookup x=some c->X.s₀.heap.objs.size<=c
 hd:X.calm=true->X.A.handled=none
 frames:X.A.frames=some X.stack
 stk:X.stack=X.outer\/(X.stack=X.env::X.outer/\X.env.frame=some X.env.locals)
 exf:∀ b∈X.ex,b≠X.env.locals/\∀ x c,X.env.cells.lookup x=some c->c≠b
 bs:∀ b o,X.base.get? b=some o->X.s₀.heap.get? b=some o/\X.H₀ b=none
 bsz:X.base.objs.size<=X.s₀.heap.objs.size
 noex:∀ b o,X.base.get? b=some o->b∉X.ex
 exfs:∀ b∈X.ex,b∉X.fs
 funs:X.s₀.heap.FunFrames X.base X.outer
 frf:∀ b∈X.fs,X.H₀ b=none
structure Inv(X:Cx)(pins:List (Addr×Obj))(σ:List (Option V))(H:Hp)(s:Shared):Prop where
 ok:X.Ok
 os:s.os=X.s₀.os
 bare:AllBare s.gens
 base:Un X.fs X.ex X.H₀ H X.s₀.heap s.heap
 loc:∃ m,s.heap.Ns X.env.locals m/\∀ (i:Nat) (x:Str) (v:V),X.N[i]? = some x->σ[i]? = some (some v)->Vis X.env.scope x->∃ u,aR v u/\aGM X.env s.heap m x u
 cell:∀ x c,X.env.cells.lookup x=some c->∃ v,s.heap.IsCell c v
 free:H X.env.locals=none
 freeC:∀ x c,X.env.cells.lookup x=some c->H c=none
 pin:∀ p∈X.pn++pins,s.heap.get? p.1=some p.2/\H p.1=none/\p.1≠X.env.locals/\p.1∉X.fs/\∀ v,p.2.data≠.cell v
 hok:HOk X.prog X.w H s.heap
 len:σ.length=X.N.length
section
variable{X:Cx}{pins:List (Addr×Obj)}{σ:List (Option V)}{H H':Hp}{s:Shared}{h':Heap}
theorem Cx.Ok.nofr(ok:X.Ok){b:Addr}{o:Obj}(e:X.base.get? b=some o):b∉X.fs:=fun hb=>by
 have:=(ok.funs.mem hb).1
 rw[e] at this;cases this
theorem Inv.bs(I:Inv X pins σ H s):∀ b o,X.base.get? b=some o->s.heap.get? b=some o/\H b=none:=fun b o e=>
 ⟨I.base.keep b o (I.ok.bs b o e).1 (I.ok.bs b o e).2 (I.ok.nofr e) (I.ok.noex b o e),I.base.free b o (I.ok.bs b o e).1 (I.ok.bs b o e).2 (I.ok.noex b o e)⟩
theorem Inv.bk(I:Inv X pins σ H s):∀ b o,X.base.get? b=some o->s.heap.get? b=some o:=fun b o e=>(I.bs b o e).1
theorem Inv.mod(I:Inv X pins σ H s):Mod X.K X.mg X.base:=I.ok.mod
theorem Inv.kIn(I:Inv X pins σ H s):X.K.In s.heap:=I.ok.mod.kin.keeps I.bk
theorem Inv.lt(I:Inv X pins σ H s):X.env.locals < s.heap.objs.size:=let ⟨_,hn,_⟩:=I.loc;hn.lt
theorem Inv.sz(I:Inv X pins σ H s):X.s₀.heap.objs.size<=s.heap.objs.size:=Nat.le_trans I.ok.above (Nat.le_of_lt I.lt)
theorem Inv.nofs(I:Inv X pins σ H s){a:Addr}(h:s.heap.objs.size<=a):a∉X.fs:=fun hb=>by
 obtain ⟨_,o,ho,_⟩:=I.ok.funs.mem hb
 exact absurd (Nat.lt_of_lt_of_le (Heap.lt_size ho) (Nat.le_trans I.sz h)) (Nat.lt_irrefl _)
theorem Inv.cne(I:Inv X pins σ H s):∀ x c,X.env.cells.lookup x=some c->c≠X.env.locals:=fun x c e z=>by
 obtain ⟨v,o,ho,hd⟩:=I.cell x c e
 obtain ⟨m,⟨o',es,ep,ho',hd',_⟩,_⟩:=I.loc
 rw[z,ho'] at ho;cases ho;rw[hd'] at hd;cases hd
theorem Inv.funs(I:Inv X pins σ H s):s.heap.FunFrames X.base X.outer:=by
 have all:∀ (l:List Env),(∀ b∈frs l,b∈X.fs)->X.s₀.heap.FunFrames X.base l->s.heap.FunFrames X.base l:=by
  intro l
  induction l with
  | nil=>intro _ _;trivial
  | cons env r ih=>
   intro hs hl
   obtain ⟨hk,⟨L,o,hf,hn,ho,hd⟩,hr⟩:=hl
   have hL:L∈X.fs:=hs L (by unfold frs;rw[List.filterMap_cons,hf];exact List.mem_cons_self)
   obtain ⟨sl,e⟩:=I.base.slot L o ho (I.ok.frf L hL) hL fun z=>I.ok.exfs L z hL
   exact ⟨hk,⟨L,_,hf,hn,e,hd⟩,ih (fun b hb=>hs b (by unfold frs;rw[List.filterMap_cons,hf];exact List.mem_cons_of_mem _ hb)) hr⟩
 exact all X.outer (fun _ hb=>hb) I.ok.funs
theorem Inv.stack(I:Inv X pins σ H s):s.heap.FunFrames X.base X.stack:=by
 rcases I.ok.stk with e|⟨e,hf⟩
 ·rw[e];exact I.funs
 ·rw[e]
  obtain ⟨m,hn,_⟩:=I.loc
  refine .cons (by rw[I.ok.kind];decide) hf hn ?_ I.funs
  exact Heap.get?_none_of_le (Nat.le_trans I.ok.bsz I.ok.above)
theorem Inv.stkSub(I:Inv X pins σ H s):∀ b∈frs X.stack,b∈X.env.locals::X.fs:=fun b hb=>by
 rcases I.ok.stk with e|⟨e,hf⟩
 ·rw[e] at hb;exact List.mem_cons_of_mem _ hb
 ·rw[e] at hb
  unfold frs at hb
  rw[List.filterMap_cons,hf] at hb
  exact hb
theorem Inv.stkFree(I:Inv X pins σ H s):∀ b∈frs X.stack,H b=none:=fun b hb=>by
 rcases List.mem_cons.mp (I.stkSub b hb) with e|hb
 ·rw[e];exact I.free
 ·obtain ⟨_,o,ho,_⟩:=I.ok.funs.mem hb
  exact I.base.free b o ho (I.ok.frf b hb) fun z=>I.ok.exfs b z hb
theorem Inv.step{g':Array GenState}{t':Nat}{d':Drawn}{ch:List Addr}(I:Inv X pins σ H s)
  (hch:∀ b∈ch,(b∈X.ex\/X.s₀.heap.objs.size<=b)/\b≠X.env.locals/\(∀ x c,X.env.cells.lookup x=some c->c≠b)/\∀ p∈X.pn++pins,p.1≠b)
  (keep:∀ b o,b≠X.env.locals->b∉X.fs->b∉ch->s.heap.get? b=some o->H b=none->h'.get? b=some o)
  (slot:∀ b o,b≠X.env.locals->b∈X.fs->b∉ch->s.heap.get? b=some o->H b=none->∃ sl,h'.get? b=some {o with slots:=sl}) (free:∀ b o,b∉ch->s.heap.get? b=some o->H b=none->H' b=none)
  (there:∀ b o,b∉ch->s.heap.get? b=some o->∃ o',h'.get? b=some o')
  (tups:∀ b xs,H b=some (.tup xs)->H' b=some (.tup xs)) (frzs:∀ b o u,H b=some (.frz o u)->H' b=some (.frz o u)) (tbls:∀ b ps,H b=some (.tbl ps)->H' b=some (.tbl ps))
  (ns:∀ m,s.heap.Ns X.env.locals m->h'.Ns X.env.locals m) (hok:HOk X.prog X.w H' h') (hg:AllBare g') :
  Inv X pins σ H' {s with heap:=h',gens:=g',drawn:=d',toks:=t'}:=by
 have neL:∀ b o,X.s₀.heap.get? b=some o->b≠X.env.locals:=fun b o e=>Nat.ne_of_lt (Nat.lt_of_lt_of_le (Heap.lt_size e) I.ok.above)
 have neC:∀ b o,X.s₀.heap.get? b=some o->b∉X.ex->b∉ch:=fun b o e hx hb=>by
  rcases (hch b hb).1 with z|z
  ·exact hx z
  ·exact absurd (Nat.lt_of_lt_of_le (Heap.lt_size e) z) (Nat.lt_irrefl _)
 have cellK:∀ x c,X.env.cells.lookup x=some c->∀ v,s.heap.IsCell c v->h'.IsCell c v:=fun x c e v zz0=>by
  obtain ⟨o,ho,hd⟩:=zz0
  have nch:c∉ch:=fun z=>(hch c z).2.2.1 x c e rfl
  by_cases hc:c∈X.fs
  ·obtain ⟨sl,q⟩:=slot c o (I.cne x c e) hc nch ho (I.freeC x c e)
   exact ⟨_,q,hd⟩
  ·exact ⟨o,keep c o (I.cne x c e) hc nch ho (I.freeC x c e),hd⟩
 refine ⟨I.ok,I.os,hg,⟨fun b o e n hb hx=>?_,fun b o e n hb hx=>?_,fun b o e n hx=>?_,fun b o e hx=>?_,fun b xs e=>tups b xs (I.base.tups b xs e),fun b o xs e=>frzs b o xs (I.base.frzs b o xs e),fun b ps e=>?_⟩,?_,fun x c e=>?_,?_,fun x c e=>?_,fun p hp=>?_,hok,I.len⟩
 ·exact keep b o (neL b o e) hb (neC b o e hx) (I.base.keep b o e n hb hx) (I.base.free b o e n hx)
 ·obtain ⟨sl,e1⟩:=I.base.slot b o e n hb hx
  obtain ⟨sl',e2⟩:=slot b _ (neL b o e) hb (neC b o e hx) e1 (I.base.free b o e n hx)
  exact ⟨sl',e2⟩
 ·obtain ⟨o',e1⟩:=I.base.there b o e hx
  exact free b o' (neC b o e hx) e1 (I.base.free b o e n hx)
 ·obtain ⟨o',e1⟩:=I.base.there b o e hx
  exact there b o' (neC b o e hx) e1
 ·exact tbls b ps (I.base.tbls b ps e)
 ·obtain ⟨m,hn,hl⟩:=I.loc
  refine ⟨m,ns m hn,fun i x v e1 e2 e3=>?_⟩
  obtain ⟨u,r,l⟩:=hl i x v e1 e2 e3
  refine ⟨u,r,?_⟩
  rcases l with l|⟨k,c,e,z⟩
  ·exact .inl l
  ·exact .inr ⟨k,c,e,cellK x c e _ z⟩
 ·obtain ⟨v,z⟩:=I.cell x c e
  exact ⟨v,cellK x c e v z⟩
 ·obtain ⟨m,⟨o,_,_,ho,_⟩,_⟩:=I.loc
  exact free _ o (fun z=>(hch _ z).2.1 rfl) ho I.free
 ·obtain ⟨v,o,ho,hd⟩:=I.cell x c e
  exact free c o (fun z=>(hch c z).2.2.1 x c e rfl) ho (I.freeC x c e)
 ·obtain ⟨e,n,ne,nf,d⟩:=I.pin p hp
  have nch:p.1∉ch:=fun z=>(hch p.1 z).2.2.2 p hp rfl
  exact ⟨keep p.1 p.2 ne nf nch e n,free p.1 p.2 nch e n,ne,nf,d⟩
theorem Inv.un{t':Nat}(I:Inv X pins σ H s)(u:Un X.fs [] H H' s.heap h')(hok:HOk X.prog X.w H' h'):Inv X pins σ H' {s with heap:=h',toks:=t'}:=by
 obtain ⟨m,⟨o,es,ep,ho,r⟩,_⟩:=id I.loc
 obtain ⟨sl,hL⟩:=u.any ho I.free (by simp)
 exact I.step (g':=s.gens) (d':=s.drawn) (ch:=[]) (fun _ z=>nomatch z) (fun b o _ hb _ e n=>u.keep b o e n hb (by simp)) (fun b o _ hb _ e n=>u.slot b o e n hb (by simp)) (fun b o _ e n=>u.free b o e n (by simp)) (fun b o _ e=>u.there b o e (by simp)) u.tups u.frzs u.tbls (fun m' hm=>by
  obtain ⟨o',es',ep',ho',r'⟩:=hm
  rw[ho] at ho';cases ho'
  exact ⟨_,es',ep',hL,r'⟩) hok I.bare
theorem Inv.call{g':Array GenState}{t':Nat}{d':Drawn}{ch:List Addr}(I:Inv X pins σ H s)(u:Un (frs X.stack) ch H H' s.heap h')(hok:HOk X.prog X.w H' h')(hg:AllBare g')
  (hch:∀ b∈ch,(b∈X.ex\/X.s₀.heap.objs.size<=b)/\b≠X.env.locals/\(∀ x c,X.env.cells.lookup x=some c->c≠b)/\∀ p∈X.pn++pins,p.1≠b) :
  Inv X pins σ H' {s with heap:=h',gens:=g',drawn:=d',toks:=t'}:=by
 obtain ⟨m,⟨o,es,ep,ho,r⟩,_⟩:=id I.loc
 obtain ⟨sl,hL⟩:=u.any ho I.free fun z=>(hch _ z).2.1 rfl
 exact I.step (ch:=ch) hch (fun b o hL hb hc e n=>u.keep b o e n (fun z=>(List.mem_cons.mp (I.stkSub b z)).elim hL hb) hc) (fun b o _ _ hc e n=>u.any e n hc) (fun b o hc e n=>u.free b o e n hc) (fun b o hc e=>u.there b o e hc) u.tups u.frzs u.tbls (fun m' hm=>by
  obtain ⟨o',es',ep',ho',r'⟩:=hm
  rw[ho] at ho';cases ho'
  exact ⟨_,es',ep',hL,r'⟩) hok hg
theorem Inv.turned{t':Nat}{it:Addr}(I:Inv X pins σ H s)(k:∀ b o,b≠it->s.heap.get? b=some o->h'.get? b=some o)(hn:H it=none)(hL:it≠X.env.locals)
  (h1:it∈X.ex\/X.s₀.heap.objs.size<=it) (h2:∀ x c,X.env.cells.lookup x=some c->c≠it) (h3:∀ p∈X.pn++pins,p.1≠it):Inv X pins σ H {s with heap:=h',toks:=t'}:=by
 have nit:∀ b u,H b=some u->b≠it:=fun b u e z=>by rw[z,hn] at e;cases e
 refine I.step (g':=s.gens) (d':=s.drawn) (ch:=[it]) (fun b hb=>?_) (fun b o _ _ hc e _=>k b o (fun z=>hc (by simp[z])) e) (fun b o _ _ hc e _=>⟨o.slots,k b o (fun z=>hc (by simp[z])) e⟩) (fun _ _ _ _ n=>n)
  (fun b o hc e=>⟨o,k b o (fun z=>hc (by simp[z])) e⟩) (fun _ _ e=>e) (fun _ _ _ e=>e) (fun _ _ e=>e) (fun m hm=>?_) (fun b u e=>?_) I.bare
 ·have e:b=it:=by simpa using hb
  subst e
  exact ⟨h1,hL,h2,h3⟩
 ·obtain ⟨o,es,ep,ho,r⟩:=hm
  exact ⟨o,es,ep,k _ o (Ne.symm hL) ho,r⟩
 ·refine (I.hok b u e).stay (fun c v hc q=>k c v ?_ q) (fun _ q=>q) (fun _ _ q=>q) fun _ _ q=>q
  rcases hc with z|z
  · rw [z]; exact nit b u e
  · exact nit c _ z
theorem Inv.tok(I:Inv X pins σ H s)(t:Nat):Inv X pins σ H {s with toks:=t}:=I.un (h':=s.heap) (t':=t) Un.refl I.hok
theorem Inv.kept{t':Nat}(I:Inv X pins σ H s)(k:∀ b u,s.heap.get? b=some u->h'.get? b=some u):Inv X pins σ H {s with heap:=h',toks:=t'}:=I.un (Un.kept k) (I.hok.kept k)
theorem Inv.laid{a:Addr}{o:HO}{t':Nat}(I:Inv X pins σ H s)(k:∀ b u,s.heap.get? b=some u->h'.get? b=some u)(hp:s.heap.objs.size<=a)(new:bW X.prog X.w (upd H a o) h' a o) :
 Inv X pins σ (upd H a o) {s with heap:=h',toks:=t'}:=I.un (Un.laid k hp (I.hok.fresh hp)) (I.hok.laid k hp new)
theorem Inv.write{x e:Addr}{o:HO}{t':Nat}(I:Inv X pins σ H s)(mu:Mut (H x))(he:e=x\/H e=some (.own x))(k:∀ b u,b≠e->s.heap.get? b=some u->h'.get? b=some u)(heo:∃ u,h'.get? e=some u)
 (new:bW X.prog X.w (upd H x o) h' x o):Inv X pins σ (upd H x o) {s with heap:=h',toks:=t'}:=I.un (Un.write mu he k heo) (I.hok.write mu he k heo new)
theorem Inv.pins_of{pins':List (Addr×Obj)}(I:Inv X pins σ H s)(h:∀ p∈pins',s.heap.get? p.1=some p.2/\H p.1=none/\p.1≠X.env.locals/\p.1∉X.fs/\∀ v,p.2.data≠.cell v):Inv X pins' σ H s:=
 ⟨I.ok,I.os,I.bare,I.base,I.loc,I.cell,I.free,I.freeC,fun p hp=>(List.mem_append.mp hp).elim (fun z=>I.pin p (List.mem_append_left _ z)) (h p),I.hok,I.len⟩
theorem pW{N:List Str}(hN:N.Nodup){i j:Nat}{x:Str}(a:N[i]? = some x)(b:N[j]? = some x):i=j:=by
 obtain ⟨h1,e1⟩:=List.getElem?_eq_some_iff.mp a
 obtain ⟨h2,e2⟩:=List.getElem?_eq_some_iff.mp b
 exact (List.getElem_inj hN).mp (e1.trans e2.symm)
theorem oU{M:Model}{A:Around}{E:Value->Shared->Prop}{i:Nat}{x:Str}{v:V}{u:Value}{Q:Unit->Shared->Prop}(I:Inv X pins σ H s)(hN:X.N.Nodup)(hi:X.N[i]? = some x)(hx:Loc X.env.scope x)(r:aR v u)
  (h:∀ s',Inv X pins (σ.set i (some v)) H s'->(∃ a,Heap.SameBut a s.heap s'.heap/\(a=X.env.locals\/X.env.cells.lookup x=some a))->Q () s') (hf:X.fn x=true\/X.env.scope.names.lookup x=some .local):wpAny M A (storeName X.env x u) Q E s:=by
 obtain ⟨m,hn,hl⟩:=id I.loc
 have hcls:(X.env.scope.kind == .class || (X.env.scope.kind == .module && X.env.locals != X.env.globals))=false:=by rw[I.ok.kind];rfl
 have hiσ:i < σ.length:=by rw[I.len];exact (List.getElem?_eq_some_iff.mp hi).1
 have cne:=I.cne
 have tracked:∀ {a:Addr} {h':Heap},(∃ o,s.heap.get? a=some o/\H a=none)->Heap.SameBut a s.heap h'->HOk X.prog X.w H h':=fun {a h'} ha hs b ob e=>by
  obtain ⟨_,_,hfree⟩:=ha
  refine (I.hok b ob e).stay (fun c w' hc q=>(hs.2 c ?_).trans q) (fun _ q=>q) (fun _ _ q=>q) fun _ _ q=>q
  rintro rfl
  rcases hc with rfl|hc
  ·rw[hfree] at e;cases e
  ·rw[hfree] at hc;cases hc
 rcases hx with hk|hk
 ·refine wpAny_storeName_local hk hn (fun h' hn' hs=>?_) hcls
  obtain ⟨oL,_,_,hoL,_⟩:=id hn
  refine h _ ⟨I.ok,I.os,I.bare,⟨fun b o e n hb hx=>?_,fun b o e n hb hx=>?_,I.base.free,fun b o e hx=>?_,I.base.tups,I.base.frzs,I.base.tbls⟩,⟨_,hn',fun j y v' e1 e2 e3=>?_⟩,fun y c e=>?_,I.free,I.freeC,fun p hp=>?_,tracked ⟨oL,hoL,I.free⟩ hs,by simpa using I.len⟩ ⟨_,hs,.inl rfl⟩
  ·exact (hs.2 b (Nat.ne_of_lt (Nat.lt_of_lt_of_le (Heap.lt_size e) I.ok.above))).trans (I.base.keep b o e n hb hx)
  ·obtain ⟨sl,e1⟩:=I.base.slot b o e n hb hx
   exact ⟨sl,(hs.2 b (Nat.ne_of_lt (Nat.lt_of_lt_of_le (Heap.lt_size e) I.ok.above))).trans e1⟩
  ·obtain ⟨o',e1⟩:=I.base.there b o e hx
   exact ⟨o',(hs.2 b (Nat.ne_of_lt (Nat.lt_of_lt_of_le (Heap.lt_size e) I.ok.above))).trans e1⟩
  ·by_cases hj:j=i
   ·subst hj
    rw[hi] at e1;cases e1
    rw[List.getElem?_set_self hiσ] at e2
    cases e2
    exact ⟨u,r,.inl ⟨hk,by simp⟩⟩
   ·rw[List.getElem?_set_ne (Ne.symm hj)] at e2
    obtain ⟨u',r',q⟩:=hl j y v' e1 e2 e3
    refine ⟨u',r',?_⟩
    rcases q with ⟨k,e⟩|⟨k,c,e,z⟩
    ·refine .inl ⟨k,?_⟩
     have:y≠x:=fun e=>hj (pW hN e1 (e▸hi))
     simp[this,e]
    ·exact .inr ⟨k,c,e,z.sameBut hs (cne y c e)⟩
  ·obtain ⟨w',z⟩:=I.cell y c e
   exact ⟨w',z.sameBut hs (cne y c e)⟩
  ·obtain ⟨e,n,ne,nf,d⟩:=I.pin p hp
   exact ⟨(hs.2 p.1 ne).trans e,n,ne,nf,d⟩
 ·have hfn:X.fn x=true:=by
   rcases hf with z|z
   ·exact z
   ·rw[z] at hk;cases hk
  obtain ⟨c,hc⟩:=I.ok.has x (.inl hk)
  obtain ⟨w',z⟩:=I.cell x c hc
  refine wpAny_storeName_cell I.ok.kind hk hc z (fun h' hc' hs=>?_)
  obtain ⟨oc,hoc,hocd⟩:=id z
  refine h {s with heap:=h'} ⟨I.ok,I.os,I.bare,⟨fun b o e n hb hx=>?_,fun b o e n hb hx=>?_,I.base.free,fun b o e hx=>?_,I.base.tups,I.base.frzs,I.base.tbls⟩,⟨m,hn.sameBut hs (Ne.symm (cne x c hc)),fun j y v' e1 e2 e3=>?_⟩,fun y c' e=>?_,I.free,I.freeC,fun p hp=>?_,tracked ⟨oc,hoc,I.freeC x c hc⟩ hs,by simpa using I.len⟩ ⟨c,hs,.inr hc⟩
  ·exact (hs.2 b (Nat.ne_of_lt (Nat.lt_of_lt_of_le (Heap.lt_size e) (I.ok.cab x c hfn hc)))).trans (I.base.keep b o e n hb hx)
  ·obtain ⟨sl,e1⟩:=I.base.slot b o e n hb hx
   exact ⟨sl,(hs.2 b (Nat.ne_of_lt (Nat.lt_of_lt_of_le (Heap.lt_size e) (I.ok.cab x c hfn hc)))).trans e1⟩
  ·obtain ⟨o',e1⟩:=I.base.there b o e hx
   exact ⟨o',(hs.2 b (Nat.ne_of_lt (Nat.lt_of_lt_of_le (Heap.lt_size e) (I.ok.cab x c hfn hc)))).trans e1⟩
  ·by_cases hj:j=i
   ·subst hj
    rw[hi] at e1;cases e1
    rw[List.getElem?_set_self hiσ] at e2
    cases e2
    exact ⟨u,r,.inr ⟨.inl hk,c,hc,hc'⟩⟩
   ·rw[List.getElem?_set_ne (Ne.symm hj)] at e2
    obtain ⟨u',r',q⟩:=hl j y v' e1 e2 e3
    refine ⟨u',r',?_⟩
    rcases q with q|⟨k,c',e,z'⟩
    ·exact .inl q
    ·refine .inr ⟨k,c',e,z'.sameBut hs ?_⟩
     rintro rfl
     exact hj (pW hN e1 (I.ok.inj _ _ _ e hc▸hi))
  ·by_cases hcc:c'=c
   ·subst hcc;exact ⟨_,hc'⟩
   ·obtain ⟨w2,z2⟩:=I.cell y c' e
    exact ⟨w2,z2.sameBut hs hcc⟩
  ·obtain ⟨e,n,ne,nf,d⟩:=I.pin p hp
   refine ⟨(hs.2 p.1 ?_).trans e,n,ne,nf,d⟩
   intro q
   rw[q,hoc] at e
   have q':oc=p.2:=Option.some.inj e
   exact d w' (by rw[<-q'];exact hocd)
theorem pX{M:Model}{A:Around}{E:Value->Shared->Prop}{i:Nat}{x:Str}{v:V}{u:Value}{Q:Unit->Shared->Prop}(I:Inv X pins σ H s)(hN:X.N.Nodup)(hi:X.N[i]? = some x)(hx:Loc X.env.scope x)(r:aR v u)
  (h:∀ s',Inv X pins (σ.set i (some v)) H s'->Q () s') (hf:X.fn x=true\/X.env.scope.names.lookup x=some .local):wpAny M A (storeName X.env x u) Q E s:=
 oU I hN hi hx r (fun s' I' _=>h s' I') hf
theorem Inv.call'{s':Shared}{ch:List Addr}(I:Inv X pins σ H s)(ho:s'.os=s.os)(u:Un (frs X.stack) ch H H' s.heap s'.heap)(hok:HOk X.prog X.w H' s'.heap)(hg:AllBare s'.gens)
  (hch:∀ b∈ch,(b∈X.ex\/X.s₀.heap.objs.size<=b)/\b≠X.env.locals/\(∀ x c,X.env.cells.lookup x=some c->c≠b)/\∀ p∈X.pn++pins,p.1≠b):Inv X pins σ H' s':=by
 obtain ⟨h',g',d',t',o'⟩:=s'
 have e:o'=s.os:=ho
 subst e
 exact I.call (g':=g') (t':=t') (d':=d') u hok hg hch
end
abbrev XK:=Value->Option Addr->Hp->Prop
abbrev St:=List (Option V)
abbrev VK:=V->Hp->Prop
abbrev TE:=St->Hp->VK->Prop
abbrev TT:=St->Hp->(Bool->Hp->Prop)->Prop
abbrev TA:=St->Hp->(List V->Hp->Prop)->Prop
structure kA where
 nx:St->Hp->Prop
 rt:VK
 bk:St->Hp->Prop:=fun _ _=>False
 ct:St->Hp->Prop:=fun _ _=>False
abbrev TS:=kA->St->Hp->Prop
def EP(X:Cx)(pins:List (Addr×Obj))(σ:St)(Q:VK)(u:Value)(s':Shared):Prop:=∃ v H',Inv X pins σ H' s'/\aR v u/\Q v H'
def TP(X:Cx)(pins:List (Addr×Obj))(σ:St)(Q:Bool->Hp->Prop)(b:Bool)(s':Shared):Prop:=∃ H',Inv X pins σ H' s'/\Q b H'
def AP(X:Cx)(pins:List (Addr×Obj))(σ:St)(Q:List V->Hp->Prop)(us:List Value)(s':Shared):Prop:=∃ vs H',Inv X pins σ H' s'/\aV vs us/\Q vs H'
def SP(X:Cx)(pins:List (Addr×Obj))(D:kA)(f:Flow)(s':Shared):Prop:=
 match f with
 | .next=>∃ σ' H',Inv X pins σ' H' s'/\D.nx σ' H'
 | .brk=>∃ σ' H',Inv X pins σ' H' s'/\D.bk σ' H'
 | .cont=>∃ σ' H',Inv X pins σ' H' s'/\D.ct σ' H'
 | .ret u=>∃ v σ' H',Inv X pins σ' H' s'/\aR v u/\D.rt v H'
def PE(X:Cx)(e:Expr)(t:TE):Prop:=
 ∀ (pins:List (Addr×Obj)) (s:Shared) (σ:St) (H:Hp) (Q:VK),Inv X pins σ H s->t σ H Q->wpAny (model X.prog X.w) X.A (eval e X.env) (EP X pins σ Q) X.xe s
def PT(X:Cx)(e:Expr)(t:TT):Prop:=
 ∀ (pins:List (Addr×Obj)) (s:Shared) (σ:St) (H:Hp) (Q:Bool->Hp->Prop),Inv X pins σ H s->t σ H Q->wpAny (model X.prog X.w) X.A (isTrue e X.env (eval e X.env)) (TP X pins σ Q) X.xe s
def PW(X:Cx)(e:Expr)(t:TT):Prop:=
 ∀ (whole:Sem Value) (pins:List (Addr×Obj)) (s:Shared) (σ:St) (H:Hp) (Q:Bool->Hp->Prop),Inv X pins σ H s->t σ H Q->wpAny (model X.prog X.w) X.A (isTrue e X.env whole) (TP X pins σ Q) X.xe s
theorem PW.pt{X:Cx}{e:Expr}{t:TT}(h:PW X e t):PT X e t:=h _
def PA(X:Cx)(es:List Expr)(t:TA):Prop:=
 ∀ (pos:Pos) (pins:List (Addr×Obj)) (s:Shared) (σ:St) (H:Hp) (Q:List V->Hp->Prop),Inv X pins σ H s->t σ H Q->wpAny (model X.prog X.w) X.A (spliced (backTo pos (starEach es X.env))) (AP X pins σ Q) X.xe s
def PS(X:Cx)(st:Stmt)(t:TS):Prop:=
 ∀ (pins:List (Addr×Obj)) (s:Shared) (σ:St) (H:Hp) (D:kA),Inv X pins σ H s->t D σ H->wpAny (model X.prog X.w) X.A (exec st X.env) (SP X pins D) X.xe s
def PSs(X:Cx)(st:List Stmt)(t:TS):Prop:=
 ∀ (pins:List (Addr×Obj)) (s:Shared) (σ:St) (H:Hp) (D:kA),Inv X pins σ H s->t D σ H->wpAny (model X.prog X.w) X.A (execs st X.env) (SP X pins D) X.xe s
theorem thn{α:Type}{t:Sem α}{Q Q':α->Shared->Prop}{M:Model}{A:Around}{E:Value->Shared->Prop}{s:Shared}(h:wpAny M A t Q E s)(hQ:∀ a s,Q a s->Q' a s):wpAny M A t Q' E s:=wpAny_mono h hQ fun _ _ x=>x
end L2
namespace L2
open PySem PySem.Spec PyProof.Rows
section
variable{X:Cx}
def fG(i:Nat):TE:=fun σ H Q=>∃ v,σ[i]? = some (some v)/\Q v H
def tC(v:V):TE:=fun _ H Q=>Q v H
theorem aCZ{i:Nat}{x:Str}{pos:Pos}(hN:X.N[i]? = some x)(hv:Vis X.env.scope x)(hd:(x == ("__debug__":Str))=false:=by decide)(hcd:(x == ("__classdict__":Str))=false:=by decide):PE X (.Name x pos) (fG i):=by
 intro pins s σ H Q I h
 obtain ⟨v,e,h⟩:=h
 obtain ⟨m,hn,hl⟩:=I.loc
 obtain ⟨u,r,l⟩:=hl i x v hN e hv
 have fin:EP X pins σ Q u s:=⟨v,H,I,r,h⟩
 rcases l with ⟨hk,hm⟩|⟨hk,c,hc,hcell⟩
 ·exact wpAny_Name (wpAny_loadName_local I.ok.kind hk hn hm fin) hd
 ·rcases hk with hk|hk
  · exact wpAny_Name (wpAny_loadName_cell I.ok.kind hk hc hcell fin) hd
  · exact wpAny_Name (wpAny_loadName_free I.ok.kind hk hc hcell fin hcd) hd
theorem aC0{i j pos}:PE X (.Constant (.int i) j pos) (tC (.int i)):=fun _ _ _ H _ I h=>wpAny_Constant_int ⟨.int i,H,I.tok _,⟨_,rfl⟩,h⟩
theorem aE9{b j pos}:PE X (.Constant (.bool b) j pos) (tC (.bl b)):=fun _ _ _ H _ I h=>Constant_bool ⟨.bl b,H,I,rfl,h⟩
theorem aC1{x j pos}:PE X (.Constant (.str x) j pos) (tC (.str x)):=fun _ _ _ H _ I h=>Calls.Constant_str ⟨.str x,H,I.tok _,⟨_,rfl⟩,h⟩
def Gl(X:Cx)(x:Str):Prop:=X.env.kindOf x=some .globalImplicit
theorem aA2{E:Value->Shared->Prop}{pins:List (Addr×Obj)}{s:Shared}{σ:St}{H:Hp}{x:Str}{u:Value}{pos:Pos}{Q:Value->Shared->Prop}(I:Inv X pins σ H s)(hg:Gl X x)(hm:X.mg x=some u)(h:Q u s)
  (hd:(x == ("__debug__":Str))=false:=by decide):wpAny (model X.prog X.w) X.A (eval (.Name x pos) X.env) Q E s:=
 Calls.Name_function_global I.ok.kind hg (Calls.loadGlobal_global (by rw[I.ok.glob];exact I.mod.glob.keeps I.bk) hm h) hd
theorem gL{E:Value->Shared->Prop}{pins:List (Addr×Obj)}{s:Shared}{σ:St}{H:Hp}{x:Str}{u:Value}{pos:Pos}{Q:Value->Shared->Prop}(I:Inv X pins σ H s)(hg:Gl X x)(hm:X.mg x=none)(hv:bootBuiltins x=some u)(h:Q u s)
  (hn:x≠"__name__":=by decide) (hd:(x == ("__debug__":Str))=false:=by decide):wpAny (model X.prog X.w) X.A (eval (.Name x pos) X.env) Q E s:=by
 obtain ⟨mb,h1,h2⟩:=I.mod.blt
 exact Calls.Name_function_global I.ok.kind hg (Calls.loadGlobal_builtin (by rw[I.ok.glob];exact I.mod.glob.keeps I.bk) hm (by rw[I.ok.blt];exact h1.keeps I.bk) ((h2 x hn).trans hv) h) hd
theorem aA3{x:Str}{v:V}{u:Value}{pos:Pos}(hg:Gl X x)(hm:X.mg x=none)(hv:bootBuiltins x=some u)(r:aR v u)(hn:x≠"__name__":=by decide)(hd:(x == ("__debug__":Str))=false:=by decide):PE X (.Name x pos) (tC v):=
 fun _ _ _ H _ I h=>gL I hg hm hv ⟨v,H,I,r,h⟩ hn hd
variable{a b:Expr}{ta tb:TE}{pos:Pos}
def PC(X:Cx)(op:CmpOp)(a b:Expr)(t:TE):Prop:=
 ∀ (pins:List (Addr×Obj)) (s:Shared) (σ:St) (H:Hp) (Q:VK),Inv X pins σ H s->t σ H Q->
  wpAny (model X.prog X.w) X.A (eval a X.env) (fun v s₁=>wpAny (model X.prog X.w) X.A (eval b X.env) (fun u s₂=>wpAny (model X.prog X.w) X.A (compareOp op v u) (EP X pins σ Q) X.xe s₂) X.xe s₁) X.xe s
theorem xX(b:Expr){op:CmpOp}(h:op≠.In)(h2:op≠.NotIn):behindInMarks op b=false:=by
 have e1:(op == CmpOp.In)=false:=by cases op<;>first|rfl|exact absurd rfl h
 have e2:(op == CmpOp.NotIn)=false:=by cases op<;>first|rfl|exact absurd rfl h2
 cases b<;>simp[behindInMarks,e1,e2]
def tB(t:TE):TT:=fun σ H Q=>t σ H fun x H1=>∃ c,x=.bl c/\Q c H1
theorem dA{op:CmpOp}{t:TE}(h:PC X op a b t)(h1:behindInMarks op b=false:=by first|exact xX _ (by decide) (by decide)|rfl):PT X (.Compare a [op] [b] pos) (tB t):=by
 intro pins s σ H Q I hw
 refine wpAny_isTrue_Compare1 (thn (h pins s σ H _ I hw) fun v s1 h1=>thn h1 fun u s2 h2=>thn h2 fun c s3 zz0=>?_) h1
 obtain ⟨x,H1,I1,r1,q1⟩:=zz0
 obtain ⟨d,rfl,q⟩:=q1
 cases r1
 exact wpAny_truthy_bool ⟨H1,I1,q⟩
theorem gM{e:Expr}{t:TE}(h:PE X e t)(he:∀ whole,isTrue e X.env whole=(do let v <-whole;standAt e.pos;holding [v] (truthy v)):=by intro _;rfl):PT X e (tB t):=by
 intro pins s σ H Q I hw
 refine isTrue_plain (thn (h pins s σ H _ I hw) fun v s1 zz0=>?_) (he _)
 obtain ⟨x,H1,I1,r1,q1⟩:=zz0
 obtain ⟨d,rfl,q⟩:=q1
 cases r1
 exact wpAny_truthy_bool ⟨H1,I1,q⟩
variable{tA tB':TT}{rest:List Expr}
def aC2(t u:TT):TT:=fun σ H Q=>t σ H fun c H1=>if c=true then u σ H1 Q else Q false H1
def tOr(t u:TT):TT:=fun σ H Q=>t σ H fun c H1=>if c=true then Q true H1 else u σ H1 Q
def aGN(t:TT):TT:=fun σ H Q=>t σ H fun c H1=>Q (!c) H1
theorem nW(ha:PT X a tA):PW X (.BoolOp .And [a] pos) tA:=by
 intro wh pins s σ H Q I h
 refine isTrue_and (thn (ha pins s σ H Q I h) fun c s1 e=>?_)
 cases c with
 | true=>exact isTrue_and_nil e
 | false=>exact e
theorem kH(ha:PT X a tA):PW X (.BoolOp .Or [a] pos) tA:=by
 intro wh pins s σ H Q I h
 refine isTrue_or (thn (ha pins s σ H Q I h) fun c s1 e=>?_)
 cases c with
 | false=>exact isTrue_or_nil e
 | true=>exact e
theorem pY(ha:PT X a tA)(hb:PW X (.BoolOp .And (b::rest) pos) tB'):PW X (.BoolOp .And (a::b::rest) pos) (aC2 tA tB'):=by
 intro wh pins s σ H Q I h
 refine isTrue_and (thn (ha pins s σ H _ I h) fun c s1 zz0=>?_)
 obtain ⟨H1,I1,q1⟩:=zz0
 cases c with
 | true=>exact hb wh pins s1 σ H1 Q I1 q1
 | false=>exact ⟨H1,I1,q1⟩
theorem lJ(ha:PT X a tA)(hb:PW X (.BoolOp .Or (b::rest) pos) tB'):PW X (.BoolOp .Or (a::b::rest) pos) (tOr tA tB'):=by
 intro wh pins s σ H Q I h
 refine isTrue_or (thn (ha pins s σ H _ I h) fun c s1 zz0=>?_)
 obtain ⟨H1,I1,q1⟩:=zz0
 cases c with
 | true=>exact ⟨H1,I1,q1⟩
 | false=>exact hb wh pins s1 σ H1 Q I1 q1
theorem fR(ha:PT X a tA):PT X (.UnaryOp .Not a pos) (aGN tA):=by
 intro pins s σ H Q I h
 exact isTrue_not (ha pins s σ H (fun c H1=>Q (!c) H1) I h)
def aFA(ta tb:TE):TE:=fun σ H Q=>ta σ H fun x H1=>∃ c,x=.bl c/\if c=true then tb σ H1 Q else Q (.bl false) H1
theorem aC3{op}{t:TE}(h:PE X a t):PE X (.BoolOp op [a] pos) t:=fun pins s σ H Q I hw=>BoolOp_one (h pins s σ H Q I hw)
theorem aC4(ha:PE X a ta)(hb:PE X (.BoolOp .And (b::rest) pos) tb):PE X (.BoolOp .And (a::b::rest) pos) (aFA ta tb):=by
 intro pins s σ H Q I h
 refine BoolOp_and (thn (ha pins s σ H _ I h) fun v s1 zz0=>?_)
 obtain ⟨x,H1,I1,r1,q1⟩:=zz0
 obtain ⟨c,rfl,q1⟩:=q1
 cases r1
 refine wpAny_truthy_bool ?_
 cases c with
 | true=>exact hb pins s1 σ H1 Q I1 q1
 | false=>exact ⟨.bl false,H1,I1,rfl,q1⟩
end
end L2
namespace L2
open PySem PySem.Spec PyProof.Rows
def SqL(K:Frag)(H:Hp)(a:Addr)(xs:List V):Prop:=
 Rd H a (.lst xs) \/
  ∃ (o:Obj) (its:Array Value) (n:Nat),K.lookup a=some o/\o.cls=.type "list"/\o.dict=none/\o.data=.seq its n/\its.size<=sizeLine/\aV xs its.toList
def SqT(K:Frag)(H:Hp)(a:Addr)(xs:List V):Prop:=
 Rd H a (.tup xs) \/
  ∃ (o:Obj) (its:Array Value) (n:Nat),K.lookup a=some o/\o.cls=.type "tuple"/\o.data=.seq its n/\its.size<=sizeLine/\aV xs its.toList
noncomputable def aGO:Value->Option V
 | .none=>some .non
 | .bool b=>some (.bl b)
 | .int i _=>some (.int i)
 | .str x _=>some (.str x)
 | .bytes b _=>some (.byt b)
 | .float b _=>some (.flt b)
 | .ref a=>some (.ref a)
 | .type n=>some (.ty n)
 | _=>none
theorem aR.abs{x:V}{u:Value}(r:aR x u):aGO u=some x:=by
 cases x with
 | non=>cases r;rfl
 | bl _=>cases r;rfl
 | int _=>obtain ⟨t,rfl⟩:=r;rfl
 | str _=>obtain ⟨t,rfl⟩:=r;rfl
 | byt _=>obtain ⟨t,rfl⟩:=r;rfl
 | flt _=>obtain ⟨t,rfl⟩:=r;rfl
 | ref _=>cases r;rfl
 | ty _=>cases r;rfl
theorem aR.inj{x y:V}{u:Value}(r:aR x u)(q:aR y u):x=y:=Option.some.inj (r.abs.symm.trans q.abs)
theorem aV.inj:∀ {xs ys:List V} {us:List Value},aV xs us->aV ys us->xs=ys
 | _,_,_,.nil,.nil=>rfl
 | _,_,_,.cons r t,.cons r' t'=>by rw[r.inj r',aV.inj t t']
section
variable{X:Cx}{pins:List (Addr×Obj)}{σ:St}{H:Hp}{s:Shared}{a:Addr}{xs ys:List V}
theorem SqL.of{K:Frag}(h:H a=some (.lst xs)):SqL K H a xs:=.inl (.inl h)
theorem SqT.of{K:Frag}(h:H a=some (.tup xs)):SqT K H a xs:=.inl (.inl h)
theorem Inv.list(I:Inv X pins σ H s)(h:SqL X.K H a xs):∃ its:List Value,aV xs its/\PlainL s.heap a its.toArray/\xs.length<=sizeLine:=by
 rcases h with h|⟨o,its,n,hk,hc,hd,hs,hz,r⟩
 ·obtain ⟨z,its,n,r,e⟩:=h.ok I.hok
  exact ⟨its,r,⟨_,n,e,rfl,rfl,rfl⟩,z⟩
 ·refine ⟨its.toList,r,⟨o,n,I.kIn a o hk,hc,hd,by simpa using hs⟩,?_⟩
  have e:=r.length
  simp only[Array.length_toList] at e
  omega
theorem Inv.tuple(I:Inv X pins σ H s)(h:SqT X.K H a xs):∃ its:List Value,aV xs its/\IsTup s.heap a its.toArray/\xs.length<=sizeLine:=by
 rcases h with h|⟨o,its,n,hk,hc,hs,hz,r⟩
 ·obtain ⟨z,its,r,p⟩:=h.ok I.hok
  exact ⟨its,r,p,z⟩
 ·refine ⟨its.toList,r,⟨o,I.kIn a o hk,hc,n,by simpa using hs⟩,?_⟩
  have e:=r.length
  simp only[Array.length_toList] at e
  omega
theorem Inv.list_inj(I:Inv X pins σ H s)(h:SqL X.K H a xs)(h':SqL X.K H a ys):xs=ys:=by
 obtain ⟨its,r,⟨o,n,e,_,_,d⟩,_⟩:=I.list h
 obtain ⟨its',r',⟨o',n',e',_,_,d'⟩,_⟩:=I.list h'
 rw[e] at e';cases e'
 rw[d] at d'
 injection d' with d1 _
 have:its=its':=by simpa using congrArg Array.toList d1
 subst this
 exact r.inj r'
theorem Inv.tuple_inj(I:Inv X pins σ H s)(h:SqT X.K H a xs)(h':SqT X.K H a ys):xs=ys:=by
 obtain ⟨its,r,⟨o,e,_,n,d⟩,_⟩:=I.tuple h
 obtain ⟨its',r',⟨o',e',_,n',d'⟩,_⟩:=I.tuple h'
 rw[e] at e';cases e'
 rw[d] at d'
 injection d' with d1 _
 have:its=its':=by simpa using congrArg Array.toList d1
 subst this
 exact r.inj r'
end
abbrev Cx.wish(X:Cx)(E:Value->Shared->Prop):Cx:={X with xe:=E}
abbrev Cx.nox(X:Cx):Cx:=X.wish fun _ _=>False
theorem Cx.Ok.wish{X:Cx}(ok:X.Ok)(E:Value->Shared->Prop):(X.wish E).Ok:=
 ⟨ok.mod,ok.kind,ok.glob,ok.blt,ok.above,ok.inj,ok.has,ok.cab,ok.hd,ok.frames,ok.stk,ok.exf,ok.bs,ok.bsz,ok.noex,ok.exfs,ok.funs,ok.frf⟩
theorem Cx.Ok.unwish{X:Cx}{E:Value->Shared->Prop}(ok:(X.wish E).Ok):X.Ok:=
 ⟨ok.mod,ok.kind,ok.glob,ok.blt,ok.above,ok.inj,ok.has,ok.cab,ok.hd,ok.frames,ok.stk,ok.exf,ok.bs,ok.bsz,ok.noex,ok.exfs,ok.funs,ok.frf⟩
section
variable{X:Cx}{pins:List (Addr×Obj)}{σ:St}{H:Hp}{s:Shared}{E:Value->Shared->Prop}
theorem Inv.wish(I:Inv X pins σ H s)(E:Value->Shared->Prop):Inv (X.wish E) pins σ H s:=⟨I.ok.wish E,I.os,I.bare,I.base,I.loc,I.cell,I.free,I.freeC,I.pin,I.hok,I.len⟩
theorem Inv.unwish(I:Inv (X.wish E) pins σ H s):Inv X pins σ H s:=⟨I.ok.unwish,I.os,I.bare,I.base,I.loc,I.cell,I.free,I.freeC,I.pin,I.hok,I.len⟩
theorem SP.unwish{D:kA}{f:Flow}{s':Shared}(h:SP (X.wish E) pins D f s'):SP X pins D f s':=by
 cases f with
 | next=>obtain ⟨σ',H',I,q⟩:=h;exact ⟨σ',H',I.unwish,q⟩
 | brk=>obtain ⟨σ',H',I,q⟩:=h;exact ⟨σ',H',I.unwish,q⟩
 | cont=>obtain ⟨σ',H',I,q⟩:=h;exact ⟨σ',H',I.unwish,q⟩
 | ret u=>obtain ⟨v,σ',H',I,r,q⟩:=h;exact ⟨v,σ',H',I.unwish,r,q⟩
theorem PE.nox{e:Expr}{t:TE}(h:PE X.nox e t):PE X e t:=fun pins s σ H Q I hw=>
 wpAny_mono (h pins s σ H Q (I.wish _) hw) (fun _ _ ⟨v,H',I',r,q⟩=>⟨v,H',I'.unwish,r,q⟩) fun _ _ z=>False.elim z
theorem PT.nox{e:Expr}{t:TT}(h:PT X.nox e t):PT X e t:=fun pins s σ H Q I hw=>
 wpAny_mono (h pins s σ H Q (I.wish _) hw) (fun _ _ ⟨H',I',q⟩=>⟨H',I'.unwish,q⟩) fun _ _ z=>False.elim z
theorem PSs.nox{st:List Stmt}{t:TS}(h:PSs X.nox st t):PSs X st t:=fun pins s σ H D I hw=>
 wpAny_mono (h pins s σ H D (I.wish _) hw) (fun _ _ q=>q.unwish) fun _ _ z=>False.elim z
end
section
variable{X:Cx}{st:Stmt}{rest:List Stmt}{t u:TS}{e:Expr}{te:TE}{pos:Pos}
def aFB:TS:=fun D σ H=>D.nx σ H
def aGP(t u:TS):TS:=fun D σ H=>t {D with nx:=u D} σ H
theorem bX:PSs X [] aFB:=fun _ _ σ H _ I h=>wpAny_execs_nil ⟨σ,H,I,h⟩
theorem aG(h1:PS X st t)(h2:PSs X rest u):PSs X (st::rest) (aGP t u):=by
 intro pins s σ H D I h
 refine wpAny_execs_cons (thn (h1 pins s σ H {D with nx:=u D} I h) fun f s1 q=>?_)
 cases f with
 | next=>
  obtain ⟨σ',H',I',q⟩:=q
  exact h2 pins s1 σ' H' D I' q
 | ret v=>exact q
 | brk=>exact q
 | cont=>exact q
theorem aT(h1:PS X st t):PSs X [st] t:=by
 intro pins s σ H D I h
 refine wpAny_execs_cons (thn (h1 pins s σ H D I h) fun f s1 q=>?_)
 cases f with
 | next=>exact wpAny_execs_nil q
 | ret v=>exact q
 | brk=>exact q
 | cont=>exact q
theorem Inv.quiet{pins:List (Addr×Obj)}{σ:St}{H:Hp}{s:Shared}(I:Inv X pins σ H s):interactive X.env=false:=by simp[interactive,I.ok.kind]
def mP(te:TE):TS:=fun D σ H=>te σ H fun _ H1=>D.nx σ H1
theorem fM(he:PE X e te)(hs:swapsWith e none pos.line X.env=pure false:=by rfl):PS X (.Expr e pos) (mP te):=by
 intro pins s σ H D I h
 exact wpAny_Expr_any (thn (he pins s σ H _ I h) fun v s1 ⟨x,H1,I1,r1,q1⟩=>⟨σ,H1,I1,q1⟩) I.quiet hs
def aGQ(te:TE):TS:=fun D σ H=>te σ H D.rt
theorem cG(he:PE X e te):PS X (.Return (some e) pos) (aGQ te):=by
 intro pins s σ H D I h
 exact wpAny_Return_some (thn (he pins s σ H _ I h) fun v s1 ⟨x,H1,I1,r1,q1⟩=>⟨x,σ,H1,I1,r1,q1⟩)
def aGR(c:TT)(t u:TS):TS:=fun D σ H=>c σ H fun b H1=>if b=true then t D σ H1 else u D σ H1
theorem cT{c:Expr}{a b:List Stmt}{tc:TT}(hc:PT X c tc)(ha:PSs X a t)(hb:PSs X b u):PS X (.If c a b pos) (aGR tc t u):=by
 intro pins s σ H D I h
 refine wpAny_If (thn (hc pins s σ H _ I h) fun d s1 zz0=>?_)
 obtain ⟨H1,I1,q1⟩:=zz0
 cases d with
 | true=>exact ha pins s1 σ H1 D I1 q1
 | false=>exact hb pins s1 σ H1 D I1 q1
end
abbrev TG:=V->St->Hp->(St->Hp->Prop)->Prop
abbrev TGs:=List V->St->Hp->(St->Hp->Prop)->Prop
def PG(X:Cx)(target:Expr)(t:TG):Prop:=
 ∀ (pins:List (Addr×Obj)) (s:Shared) (σ:St) (H:Hp) (v:V) (u:Value) (Q:St->Hp->Prop),Inv X pins σ H s->aR v u->t v σ H Q->
  wpAny (model X.prog X.w) X.A (assign target X.env u) (fun _ s'=>∃ σ' H',Inv X pins σ' H' s'/\Q σ' H') X.xe s
def PGs(X:Cx)(ts:List Expr)(t:TGs):Prop:=
 ∀ (pins:List (Addr×Obj)) (s:Shared) (σ:St) (H:Hp) (vs:List V) (us:List Value) (Q:St->Hp->Prop),Inv X pins σ H s->aV vs us->t vs σ H Q->
  wpAny (model X.prog X.w) X.A (assignInOrder ((assignEach ts X.env).map (·.2)) us) (fun _ s'=>∃ σ' H',Inv X pins σ' H' s'/\Q σ' H') X.xe s
abbrev tS:=V->V->V->Hp->(Hp->Prop)->Prop
def xY(X:Cx)(t:tS):Prop:=
 ∀ (pins:List (Addr×Obj)) (s:Shared) (σ:St) (H:Hp) (o i v:V) (ov iv u:Value) (Q:Hp->Prop),Inv X pins σ H s->aR o ov->aR i iv->aR v u->t o i v H Q->
  wpAny (model X.prog X.w) X.A (setItem ov iv u) (fun _ s'=>∃ H',Inv X pins σ H' s'/\Q H') X.xe s
section
variable{X:Cx}{pos:Pos}
def gE(i:Nat):TG:=fun v σ H Q=>Q (σ.set i (some v)) H
theorem cL{i:Nat}{x:Str}(hN:X.N.Nodup)(hi:X.N[i]? = some x)(hx:Loc X.env.scope x)(hf:X.fn x=true\/X.env.scope.names.lookup x=some .local:=by first|exact .inl rfl|exact .inr rfl):PG X (.Name x pos) (gE i):=by
 intro pins s σ H v u Q I r h
 exact wpAny_assign_Name (pX I hN hi hx r (fun s' I'=>⟨_,H,I',h⟩) hf)
def aC5:TGs:=fun vs σ H Q=>vs=[]/\Q σ H
def aAB(t:TG)(u:TGs):TGs:=fun vs σ H Q=>∃ v r,vs=v::r/\t v σ H fun σ' H'=>u r σ' H' Q
theorem lK:PGs X [] aC5:=by
 intro pins s σ H vs us Q I r h
 obtain ⟨e,h⟩:=h
 subst e
 cases r
 exact assignInOrder_nil ⟨σ,H,I,h⟩
theorem eP{e:Expr}{es:List Expr}{t:TG}{u:TGs}(h1:PG X e t)(h2:PGs X es u)
  (hs:(assignEach (e::es) X.env).map (·.2)=assign e X.env::(assignEach es X.env).map (·.2):=by rfl):PGs X (e::es) (aAB t u):=by
 intro pins s σ H vs us Q I r h
 obtain ⟨v,vr,e1,h⟩:=h
 subst e1
 cases r with
 | cons r rr=>
  rw[hs]
  refine assignInOrder_cons (thn (h1 pins s σ H _ _ _ I r h) fun _ s1 zz0=>?_)
  obtain ⟨σ1,H1,I1,q1⟩:=zz0
  exact h2 pins s1 σ1 H1 _ _ Q I1 rr q1
def aC6(K:Frag)(n:Nat)(t:TGs):TG:=fun v σ H Q=>∃ a xs,v=.ref a/\SqT K H a xs/\xs.length=n/\t xs σ H Q
theorem mQ{es:List Expr}{k:Nat}{t:TGs}{n:Nat}(hc:X.calm=true)(h:PGs X es t)
  (hn:(assignEach es X.env).length=n:=by rfl) (hst:(assignEach es X.env).findIdx? (·.1)=none:=by rfl):PG X (.Tuple es k pos) (aC6 X.K n t):=by
 intro pins s σ H v u Q I r hw
 obtain ⟨a,xs,e1,hq,hl,hw⟩:=hw
 subst e1
 cases r
 obtain ⟨its,rv,ht,hz⟩:=I.tuple hq
 refine assign_Tuple_tuple (I.ok.hd hc) ht (by simp[hn,<-hl,rv.length]) hst fun h' hx=>?_
 have I1:Inv X pins σ H {s with heap:=h'}:=I.kept (t':=s.toks) fun b o e=>hx b o (Nat.ne_of_lt (Heap.lt_size e)) e
 exact h pins _ σ H xs _ Q I1 (by simpa using rv) hw
def xZ(to ti:TE)(t:tS):TG:=fun v σ H Q=>to σ H fun o H1=>ti σ H1 fun i H2=>t o i v H2 fun H3=>Q σ H3
theorem kI{o i:Expr}{to ti:TE}{t:tS}(ho:PE X o to)(hi:PE X i ti)(hs:xY X t)
  (ha:∀ v,assign (.Subscript o i pos) X.env v=(do
   let ov <-holding [v] (eval o X.env)
   let iv <-holding [v,ov] (eval i X.env)
   standAt pos
   holding [v,ov,iv] (setItem ov iv v)
   release [v,ov,iv] []):=by intro _;rfl):PG X (.Subscript o i pos) (xZ to ti t):=by
 intro pins s σ H v u Q I r h
 rw[ha]
 refine wpAny_bind (wpAny_holding (thn (ho pins s σ H _ I h) fun ov s1 zz0=>?_))
 obtain ⟨x,H1,I1,r1,q1⟩:=zz0
 refine wpAny_bind (wpAny_holding (thn (hi pins s1 σ H1 _ I1 q1) fun iv s2 zz0=>?_))
 obtain ⟨y,H2,I2,r2,q2⟩:=zz0
 refine wpAny_bind (wpAny_standAt (wpAny_bind (wpAny_holding (thn (hs pins s2 σ H2 x y v ov iv u _ I2 r1 r2 r q2) fun _ s3 zz0=>?_))))
 obtain ⟨H3,I3,q3⟩:=zz0
 exact wpAny_release ⟨σ,H3,I3,q3⟩
def gY(te:TE)(g:TG):TS:=fun D σ H=>te σ H fun x H1=>g x σ H1 D.nx
theorem iI{tg e:Expr}{te:TE}{g:TG}(he:PE X e te)(hg:PG X tg g)(hs:swapsWithSole [tg] e pos.line X.env=pure false:=by rfl)(hw:swappedStores [tg] e X.env=pure none:=by rfl)
  (h1:(assignEach [tg] X.env).map (·.2)=[assign tg X.env]:=by rfl):PS X (.Assign [tg] e pos) (gY te g):=by
 intro pins s σ H D I h
 refine wpAny_Assign_stores (thn (he pins s σ H _ I h) fun v s1 zz0=>?_) hs hw
 obtain ⟨x,H1,I1,r1,q1⟩:=zz0
 rw[h1]
 exact thn (hg pins s1 σ H1 x v _ I1 r1 q1) fun _ s2 q=>q
theorem aO{i:Nat}{x:Str}{e:Expr}{te:TE}{pos':Pos}(hN:X.N.Nodup)(hi:X.N[i]? = some x)(hx:Loc X.env.scope x)(he:PE X e te)(hs:swapsWith e (some (.Name x pos')) pos.line X.env=pure false:=by rfl)(hf:X.fn x=true\/X.env.scope.names.lookup x=some .local:=by exact .inl rfl) :
  PS X (.Assign [.Name x pos'] e pos) (gY te (gE i)):=by
 intro pins s σ H D I h
 refine wpAny_Assign_Name (thn (he pins s σ H _ I h) fun v s1 zz0=>?_) hs
 obtain ⟨y,H1,I1,r1,q1⟩:=zz0
 exact pX I1 hN hi hx r1 (fun s2 I2=>⟨_,H1,I2,q1⟩) hf
end
section
variable{X:Cx}{pos:Pos}
def vB(c:TT)(tb:TS):TS:=fun D σ H=>∃ W:Nat->St->Hp->Prop,(∃ m,W m σ H)/\∀ m σ H,W m σ H->
 c σ H fun b H1=>if b=true then ∃ N:St->Hp->Prop,(∀ σ' H',N σ' H'->∃ m',m' < m/\W m' σ' H')/\tb {D with nx:=N,ct:=N,bk:=D.nx} σ H1 else D.nx σ H1
theorem l8{c:Expr}{body:List Stmt}{tc:TT}{tb:TS}(hp:PassesOwn (model X.prog X.w) X.A X.env X.xe)(hc:PT X c tc)(hb:PSs X body tb):PS X (.While c body [] pos) (vB tc tb):=by
 intro pins s σ H D I h
 obtain ⟨W,⟨m0,w0⟩,turn⟩:=h
 refine wpAny_While (codeAny_whileLoop (fun n s'=>∃ σ' H',Inv X pins σ' H' s'/\W n σ' H') ?_ m0 ⟨σ,H,I,w0⟩)
 rintro n s1 ⟨σ1,H1,I1,w1⟩
 refine wpAny_passesOwn hp (thn (hc pins s1 σ1 H1 _ I1 (turn n σ1 H1 w1)) fun b s2 zz0=>?_)
 obtain ⟨H2,I2,q2⟩:=zz0
 cases b with
 | true=>
  obtain ⟨N,hN,q2⟩:=q2
  rw[if_pos rfl]
  refine wpAny_passesOwn hp (thn (hb pins s2 σ1 H2 _ I2 q2) fun f s3 q3=>?_)
  cases f with
  | next=>
   obtain ⟨σ3,H3,I3,n3⟩:=q3
   obtain ⟨m',hm,w3⟩:=hN σ3 H3 n3
   exact ⟨m',hm,σ3,H3,I3,w3⟩
  | cont=>
   obtain ⟨σ3,H3,I3,n3⟩:=q3
   obtain ⟨m',hm,w3⟩:=hN σ3 H3 n3
   exact ⟨m',hm,σ3,H3,I3,w3⟩
  | brk=>exact q3
  | ret v=>exact q3
 | false=>
  rw[if_neg Bool.false_ne_true]
  exact wpAny_execs_nil ⟨σ1,H2,I2,q2⟩
end
structure It where
 go:Nat->Hp->Prop
 yld:Nat->Hp->V->Hp->Prop
 stop:Nat->Hp->Prop
def eI(X:Cx)(pins:List (Addr×Obj))(H:Hp)(b:Addr):Prop:=
 H b=none/\b≠X.env.locals/\b∉X.fs/\(b∈X.ex\/X.s₀.heap.objs.size<=b)/\(∀ x c,X.env.cells.lookup x=some c->c≠b)/\∀ p∈X.pn++pins,p.1≠b
theorem Inv.fpOk{X:Cx}{pins:List (Addr×Obj)}{σ:St}{H H':Hp}{s:Shared}{b:Addr}(I:Inv X pins σ H s)(hb:s.heap.objs.size<=b)(hn:H' b=none):eI X pins H' b:=by
 refine ⟨hn,Nat.ne_of_gt (Nat.lt_of_lt_of_le I.lt hb),I.nofs hb,.inr (Nat.le_trans I.sz hb),fun x c e z=>?_,fun p hp z=>?_⟩
 ·obtain ⟨v,q⟩:=I.cell x c e
  exact absurd (Nat.lt_of_lt_of_le q.lt (by rw[z];exact hb)) (Nat.lt_irrefl _)
 ·exact absurd (Nat.lt_of_lt_of_le (Heap.lt_size (I.pin p hp).1) (by rw[z];exact hb)) (Nat.lt_irrefl _)
structure Turn(P:Program)(w:World)(K:Frag)(tg:Expr)(J:It)(fp:List Addr)(it:Addr)(tn:Nat->Heap->Prop):Prop where
 mem:it∈fp
 obj:∀ i h,tn i h->∀ b∈fp,∃ o,h.get? b=some o/\∀ v,o.data≠.cell v
 keep:∀ i h h',tn i h->(∀ b∈fp,∀ o,h.get? b=some o->h'.get? b=some o)->tn i h'
 item:∀ (X:Cx),X.prog=P->X.w=w->X.K=K->X.calm=true->∀ (i:Nat) (pins:List (Addr×Obj)) (s:Shared) (σ:St) (H:Hp) (E:Value->Shared->Prop),Inv X pins σ H s->(∀ b∈fp,eI X pins H b)->tn i s.heap->J.go i H->
  wpAny (model P w) X.A (pyNext (.ref it)) (fun r s1=>∃ u,r=some u /\
   wpAny (model P w) X.A (letOwnedTupleGo tg (.ref it) u) (fun _ s2=>∃ x H',Inv X pins σ H' s2/\aR x u/\J.yld i H x H'/\tn (i+1) s2.heap/\∀ b∈fp,H' b=none) E s1) E s
 done:∀ (X:Cx),X.prog=P->X.w=w->X.K=K->X.calm=true->∀ (i:Nat) (pins:List (Addr×Obj)) (s:Shared) (σ:St) (H:Hp) (E:Value->Shared->Prop),Inv X pins σ H s->(∀ b∈fp,eI X pins H b)->tn i s.heap->J.stop i H->
  wpAny (model P w) X.A (pyNext (.ref it)) (fun r s1=>r=none/\Inv X pins σ H s1) E s
 self:∀ (A:Around) (i:Nat) (s:Shared) (Q:Value->Shared->Prop) (E:Value->Shared->Prop),tn i s.heap->Q (.ref it) s->wpAny (model P w) A (pyIter (.ref it)) Q E s
abbrev TI:=St->Hp->(It->Hp->Prop)->Prop
def PIE(X:Cx)(pins:List (Addr×Obj))(σ:St)(tg:Expr)(R:It->Hp->Prop)(itv:Value)(s2:Shared):Prop:=
 ∃ (it:Addr) (fp:List Addr) (tn:Nat->Heap->Prop) (J:It) (H':Hp),itv=.ref it/\Inv X pins σ H' s2/\Turn X.prog X.w X.K tg J fp it tn/\tn 0 s2.heap/\(∀ b∈fp,eI X pins H' b)/\R J H'
def PI(X:Cx)(tg iter:Expr)(wi:TI):Prop:=
 ∀ (pins:List (Addr×Obj)) (s:Shared) (σ:St) (H:Hp) (R:It->Hp->Prop),Inv X pins σ H s->wi σ H R->
  wpAny (model X.prog X.w) X.A (eval iter X.env) (fun v s1=>wpAny (model X.prog X.w) X.A (pyIter v) (PIE X pins σ tg R) X.xe s1) X.xe s
theorem mR {M : Model} {A : Around} {E : Value -> Shared -> Prop} {s : Shared} {tg : Expr} {it : Addr} {u : Value} {o : Obj} {n : String} {vs : Array Value} {Q : Unit -> Shared -> Prop} (ho : s.heap.get? it = some o) (hc : o.cls = .type n) (hd : o.data = .fields vs)
    (hn : ["enumerate", "zip", "dict_itemiterator", "dict_reverseitemiterator", "odict_iterator", "itertools.zip_longest", "itertools.pairwise"].contains n = false) (hQ : Q () s) : wpAny M A (letOwnedTupleGo tg (.ref it) u) Q E s := by
  unfold letOwnedTupleGo
  cases tg <;> first
    | exact wpAny_pure hQ
    | (cases u <;> first
        | exact wpAny_pure hQ
        | (refine wpAny_bind (wpAny_load ho ?_)
           rw [hc, hd]
           show wpAny M A (if (["enumerate", "zip", "dict_itemiterator", "dict_reverseitemiterator", "odict_iterator", "itertools.zip_longest", "itertools.pairwise"].contains n && vs[0]? == some (rawInt _)) = true then _ else _) Q E s
           rw [if_neg (by intro h; rw [hn, Bool.false_and] at h; cases h)]
           exact wpAny_pure hQ))
def Itl(K:Frag)(a:Addr):It:=
 ⟨fun i H=>∃ xs x,SqL K H a xs/\xs[i]? = some x,fun i H x H'=>H'=H/\∀ xs,SqL K H a xs->xs[i]? = some x,fun i H=>∃ xs,SqL K H a xs/\xs.length<=i⟩
def Itt(K:Frag)(a:Addr):It:=
 ⟨fun i H=>∃ xs x,SqT K H a xs/\xs[i]? = some x,fun i H x H'=>H'=H/\∀ xs,SqT K H a xs->xs[i]? = some x,fun i H=>∃ xs,SqT K H a xs/\xs.length<=i⟩
noncomputable def Itr(lo:Int)(n:Nat):It:=⟨fun i _=>i < n,fun i H x H'=>H'=H/\x=.int (lo+i),fun i _=>n<=i⟩
theorem vC{P:Program}{w:World}{K:Frag}{tg:Expr}(a it:Addr):Turn P w K tg (Itl K a) [it] it (fun i h=>h.IsListIter it a i) where
 mem:=by simp
 obj:=fun i h st b hb=>by
  have e:b=it:=by simpa using hb
  subst e
  obtain ⟨o,e,c,d⟩:=st
  exact ⟨o,e,fun v z=>by rw[d] at z;cases z⟩
 keep:=fun i h h' st k=>st.at fun o e=>k it (by simp) o e
 item:=by
  intro X hP hw hK hc i pins s σ H E I hf st hg
  subst hP hw hK
  obtain ⟨xs,x,hq,hx⟩:=hg
  obtain ⟨its,rv,p,hz⟩:=I.list hq
  obtain ⟨u,hu,ru⟩:=rv.get hx
  obtain ⟨f0,f1,f2,f3,f4,f5⟩:=hf it (by simp)
  refine wpAny_pyNext_list_item st p.isList (x:=u) (by simpa using hu) fun h' st' sb=>?_
  have I1:Inv X pins σ H {s with heap:=h'}:=I.turned (t':=s.toks) (fun b o hb e=>(sb.2 b hb).trans e) f0 f1 f3 f4 f5
  obtain ⟨o,e,c,d⟩:=id st'
  exact ⟨u,rfl,mR (s:={s with heap:=h'}) e c d (by decide) ⟨x,H,I1,ru,⟨rfl,fun ys hy=>by rw[I.list_inj hy hq];exact hx⟩,st',fun b hb=>(hf b hb).1⟩⟩
 done:=by
  intro X hP hw hK hc i pins s σ H E I hf st hg
  subst hP hw hK
  obtain ⟨xs,hq,hx⟩:=hg
  obtain ⟨its,rv,p,hz⟩:=I.list hq
  obtain ⟨f0,f1,f2,f3,f4,f5⟩:=hf it (by simp)
  have hl:=rv.length
  exact wpAny_pyNext_list_end (I.ok.hd hc) st p.isList (by simp;omega) fun h' eb=>⟨rfl,I.turned (t':=s.toks) (fun b o hb e=>eb b o hb e) f0 f1 f3 f4 f5⟩
 self:=fun _ _ _ _ _ st h=>wpAny_pyIter_listiter st h
theorem tT{P:Program}{w:World}{K:Frag}{tg:Expr}(a it:Addr):Turn P w K tg (Itt K a) [it] it (fun i h=>h.IsTupleIter it a i) where
 mem:=by simp
 obj:=fun i h st b hb=>by
  have e:b=it:=by simpa using hb
  subst e
  obtain ⟨o,e,c,d⟩:=st
  exact ⟨o,e,fun v z=>by rw[d] at z;cases z⟩
 keep:=fun i h h' st k=>st.at fun o e=>k it (by simp) o e
 item:=by
  intro X hP hw hK hc i pins s σ H E I hf st hg
  subst hP hw hK
  obtain ⟨xs,x,hq,hx⟩:=hg
  obtain ⟨its,rv,p,hz⟩:=I.tuple hq
  obtain ⟨u,hu,ru⟩:=rv.get hx
  obtain ⟨f0,f1,f2,f3,f4,f5⟩:=hf it (by simp)
  refine wpAny_pyNext_tuple_item st (show s.heap.IsTuple a its.toArray from p) (x:=u) (by simpa using hu) fun h' st' sb=>?_
  have I1:Inv X pins σ H {s with heap:=h'}:=I.turned (t':=s.toks) (fun b o hb e=>(sb.2 b hb).trans e) f0 f1 f3 f4 f5
  obtain ⟨o,e,c,d⟩:=id st'
  exact ⟨u,rfl,mR (s:={s with heap:=h'}) e c d (by decide) ⟨x,H,I1,ru,⟨rfl,fun ys hy=>by rw[I.tuple_inj hy hq];exact hx⟩,st',fun b hb=>(hf b hb).1⟩⟩
 done:=by
  intro X hP hw hK hc i pins s σ H E I hf st hg
  subst hP hw hK
  obtain ⟨xs,hq,hx⟩:=hg
  obtain ⟨its,rv,p,hz⟩:=I.tuple hq
  obtain ⟨f0,f1,f2,f3,f4,f5⟩:=hf it (by simp)
  have hl:=rv.length
  exact wpAny_pyNext_tuple_end (I.ok.hd hc) st (show s.heap.IsTuple a its.toArray from p) (by simp;omega) fun h' eb=>⟨rfl,I.turned (t':=s.toks) (fun b o hb e=>eb b o hb e) f0 f1 f3 f4 f5⟩
 self:=fun _ _ _ _ _ st h=>wpAny_pyIter_tupleiter st h
theorem tU{P:Program}{w:World}{K:Frag}{tg:Expr}(it:Addr)(lo:Int)(n:Nat):Turn P w K tg (Itr lo n) [it] it (fun i h=>IsRangeIter h it (lo+(i:Nat) * 1) ((n:Int) - (i:Nat)) 1) where
 mem:=by simp
 obj:=fun i h st b hb=>by
  have e:b=it:=by simpa using hb
  subst e
  exact ⟨_,st,fun v z=>by
   have z':Data.fields _=Data.cell v:=z
   cases z'⟩
 keep:=fun i h h' st k=>k it (by simp) _ st
 item:=by
  intro X hP hw hK hc i pins s σ H E I hf st hg
  subst hP hw hK
  obtain ⟨f0,f1,f2,f3,f4,f5⟩:=hf it (by simp)
  have W:=Walks.range (prog:=X.prog) (w:=X.w) (I.ok.hd hc) it lo 1 n
  refine W.item i s _ _ hg st fun v h' tk hv st' kk=>?_
  obtain ⟨t,rfl⟩:=hv
  have I1:Inv X pins σ H {s with heap:=h',toks:=tk}:=I.turned (fun b o hb e=>kk b o (by simpa using hb) e) f0 f1 f3 f4 f5
  refine ⟨_,rfl,mR (s:={s with heap:=h',toks:=tk}) (n:="range_iterator") st' rfl rfl (by decide) ⟨.int (lo+i),H,I1,⟨t,?_⟩,⟨rfl,rfl⟩,st',fun b hb=>(hf b hb).1⟩⟩
  rw[Int.mul_one]
 done:=by
  intro X hP hw hK hc i pins s σ H E I hf st hg
  subst hP hw hK
  obtain ⟨f0,f1,f2,f3,f4,f5⟩:=hf it (by simp)
  exact wpAny_pyNext_range_end (I.ok.hd hc) st (by have:n<=i:=hg;omega) fun h' eb=>⟨rfl,I.turned (t':=s.toks) (fun b o hb e=>eb b o hb e) f0 f1 f3 f4 f5⟩
 self:=fun _ _ _ _ _ st h=>wpAny_pyIter_rangeiter st h
end L2
namespace L2
open PySem PySem.Spec PyProof.Rows
section
variable{X:Cx}{tg:Expr}
theorem x3{pins:List (Addr×Obj)}{σ:St}{H:Hp}{s:Shared}{R:It->Hp->Prop}{E:Value->Shared->Prop}{lo hi:Int}{t u v:Tok}{tk:Nat}(I:Inv X pins σ H s)(h1 : -(2 ^ 62)<=lo)(h2:lo < 2 ^ 62)(h3 : -(2 ^ 62)<=hi)(h4:hi < 2 ^ 62)
  (q:R (Itr lo (hi - lo).toNat) H):wpAny (model X.prog X.w) X.A (pyIter (.ref s.heap.objs.size)) (PIE X pins σ tg R) E {s with heap:=s.heap.push {cls:=.type "range",data:=.fields #[.int lo t,.int hi u,.int 1 v]},toks:=tk}:=by
 refine wpAny_pyIter_range (IsRange.new ..) (small_one h1 h2 h3 h4) ?_
 have I1:Inv X pins σ H {s with heap:=s.heap.push {cls:=.type "range",data:=.fields #[.int lo t,.int hi u,.int 1 v]},toks:=tk}:=I.kept fun b o e=>Heap.get?_push_of_some _ e
 refine ⟨(s.heap.push {cls:=.type "range",data:=.fields #[.int lo t,.int hi u,.int 1 v]}).objs.size,[(s.heap.push {cls:=.type "range",data:=.fields #[.int lo t,.int hi u,.int 1 v]}).objs.size],_,_,H,rfl,
  I1.kept (t':=tk) fun b o e=>Heap.get?_push_of_some _ e,tU _ lo (hi - lo).toNat,?_,fun b hb=>?_,q⟩
 ·have e1:lo+((0:Nat):Int) * 1=lo:=by simp
  have e2:(((hi - lo).toNat:Nat):Int) - ((0:Nat):Int)=Builtin.Range.rangeSize lo hi 1:=by rw[rangeSize_one];split<;>omega
  show IsRangeIter _ _ (lo+((0:Nat):Int) * 1) ((((hi - lo).toNat:Nat):Int) - ((0:Nat):Int)) 1
  rw[e1,e2]
  exact Heap.get?_push_size _ rfl
 ·have e:b=(s.heap.push {cls:=.type "range",data:=.fields #[.int lo t,.int hi u,.int 1 v]}).objs.size:=by simpa using hb
  subst e
  exact I1.fpOk (Nat.le_refl _) (I1.hok.fresh (Nat.le_refl _))
def aAC(ta:TA):TI:=fun σ H R=>ta σ H fun vs H1=>∃ j:Int,vs=[.int j] /\ -(2 ^ 62)<=j/\j < 2 ^ 62/\R (Itr 0 j.toNat) H1
theorem kJ{a:Expr}{ta:TA}{p pos:Pos}(hg:Gl X "range")(hm:X.mg "range"=none)(ha:PA X [a] ta)(hs:starEach [a] X.env=[(false,eval a X.env)]:=by rfl):PI X tg (.Call (.Name "range" p) [a] [] pos) (aAC ta):=by
 intro pins s σ H R I h
 refine Call_ (gL I hg hm boot_range (PyProof.Rows.callWith_type1 (thn (ha pos pins s σ H _ I h) fun us s1 zz0=>?_) hs rfl))
 obtain ⟨vs,H1,I1,r1,q1⟩:=zz0
 obtain ⟨j,e,q1,q2,q⟩:=q1
 subst e
 cases r1 with
 | cons r rr=>
  cases rr
  obtain ⟨t,rfl⟩:=r
  exact call_range_1 (x3 I1 (by omega) (by omega) q1 q2 (by simpa using q))
def aC7(wi:TI)(g:TG)(tb:TS):TS:=fun D σ H=>wi σ H fun J H1=>∃ W:Nat->Nat->St->Hp->Prop,(∃ m,W 0 m σ H1)/\∀ i m σ H,W i m σ H->
 (J.stop i H/\D.nx σ H)\/(J.go i H/\∃ N:St->Hp->Prop,(∀ σ' H',N σ' H'->∃ m',m' < m/\W (i+1) m' σ' H')/\∀ x H',J.yld i H x H'->g x σ H' fun σ2 H2=>tb {D with nx:=N,ct:=N,bk:=D.nx} σ2 H2)
noncomputable def kK(fp:List Addr)(h:Heap):List (Addr×Obj):=fp.filterMap fun b=>(h.get? b).map fun o=>(b,o)
theorem fS{fp:List Addr}{h:Heap}{b:Addr}{o:Obj}(hb:b∈fp)(e:h.get? b=some o):(b,o)∈kK fp h:=List.mem_filterMap.mpr ⟨b,hb,by rw[e];rfl⟩
theorem vE{fp:List Addr}{h:Heap}{p:Addr×Obj}(hp:p∈kK fp h):p.1∈fp/\h.get? p.1=some p.2:=by
 obtain ⟨b,hb,e⟩:=List.mem_filterMap.mp hp
 cases q:h.get? b with
 | none=>rw[q] at e;cases e
 | some o=>
  rw[q] at e
  have e':(b,o)=p:=Option.some.inj e
  subst e'
  exact ⟨hb,q⟩
theorem Inv.pinned{pins:List (Addr×Obj)}{σ:St}{H:Hp}{s:Shared}{fp:List Addr}(I:Inv X pins σ H s)(hf:∀ b∈fp,eI X pins H b)(ho:∀ b∈fp,∃ o,s.heap.get? b=some o/\∀ v,o.data≠.cell v):Inv X (pins++kK fp s.heap) σ H s:=
 I.pins_of fun p hp=>(List.mem_append.mp hp).elim (fun z=>I.pin p (List.mem_append_right _ z)) fun z=>by
  obtain ⟨hb,e⟩:=vE z
  obtain ⟨f0,f1,f2,_⟩:=hf p.1 hb
  obtain ⟨o,e',d⟩:=ho p.1 hb
  rw[e] at e';cases e'
  exact ⟨e,f0,f1,f2,d⟩
theorem Inv.unpinned{pins pl:List (Addr×Obj)}{σ:St}{H:Hp}{s:Shared}(I:Inv X (pins++pl) σ H s):Inv X pins σ H s:=I.pins_of fun p hp=>I.pin p (List.mem_append_right _ (List.mem_append_left _ hp))
theorem dQ{iter:Expr}{body:List Stmt}{wi:TI}{g:TG}{tb:TS}{pos:Pos}(hp:PassesOwn (model X.prog X.w) X.A X.env X.xe)(hc:X.calm=true)(hi:PI X tg iter wi)(hg:PG X tg g)(hb:PSs X body tb)
  (hs:∀ x,foldedSetIterable iter X.env x=pure x:=by intro _;rfl):PS X (.For tg iter body [] pos) (aC7 wi g tb):=by
 intro pins s σ H D I h
 refine wpAny_For (thn (hi pins s σ H _ I h) fun v s1 h1=>thn h1 fun itv s2 h2=>?_) hs
 obtain ⟨it,fp,tn,J,H2,e,I2,T,st2,f2,W,⟨m0,w0⟩,turn⟩:=h2
 subst e
 have stat:∀ {H':Hp},(∀ b∈fp,H' b=none)->∀ b∈fp,eI X pins H' b:=fun hn b hb=>⟨hn b hb,(f2 b hb).2⟩
 refine codeAny_forLoop_any (fun n s'=>∃ i σ' H',Inv X pins σ' H' s'/\tn i s'.heap/\(∀ b∈fp,H' b=none)/\W i n σ' H') ?_ m0 ⟨0,σ,H2,I2,st2,fun b hb=>(f2 b hb).1,w0⟩
 rintro n s3 ⟨i,σ3,H3,I3,st3,fr3,w3⟩
 rcases turn i n σ3 H3 w3 with ⟨stop,qn⟩|⟨go,N,hN,step⟩
 ·refine wpAny_passesOwn hp (thn (T.done X rfl rfl rfl hc i pins s3 σ3 H3 X.xe I3 (stat fr3) st3 stop) fun r s4 zz0=>?_)
  obtain ⟨hr,I4⟩:=zz0
  subst hr
  exact wpAny_execs_nil ⟨σ3,H3,I4,qn⟩
 ·refine wpAny_passesOwn hp (thn (T.item X rfl rfl rfl hc i pins s3 σ3 H3 X.xe I3 (stat fr3) st3 go) fun r s4 zz0=>?_)
  obtain ⟨u,hr,h4⟩:=zz0
  subst hr
  refine wpAny_passesOwn hp (thn h4 fun _ s5 zz0=>?_)
  obtain ⟨x,H5,I5,r5,y5,st5,fr5⟩:=zz0
  have I5':=I5.pinned (stat fr5) (T.obj _ _ st5)
  refine wpAny_passesOwn hp (thn (hg _ s5 σ3 H5 x u _ I5' r5 (step x H5 y5)) fun _ s6 zz0=>?_)
  obtain ⟨σ6,H6,I6,q6⟩:=zz0
  refine wpAny_passesOwn hp (thn (hb _ s6 σ6 H6 _ I6 q6) fun f s7 q7=>?_)
  have again:∀ {σ7:St} {H7:Hp},Inv X (pins++kK fp s5.heap) σ7 H7 s7->N σ7 H7->∃ m,m < n/\∃ i σ' H',Inv X pins σ' H' s7/\tn i s7.heap/\(∀ b∈fp,H' b=none)/\W i m σ' H':=fun {σ7 H7} I7 n7=>by
   obtain ⟨m',hm,w7⟩:=hN σ7 H7 n7
   refine ⟨m',hm,i+1,σ7,H7,I7.unpinned,T.keep _ _ _ st5 fun b hb o e=>(I7.pin (b,o) (List.mem_append_right _ (List.mem_append_right _ (fS hb e)))).1,fun b hb=>?_,w7⟩
   obtain ⟨o,e,d⟩:=T.obj _ _ st5 b hb
   exact (I7.pin (b,o) (List.mem_append_right _ (List.mem_append_right _ (fS hb e)))).2.1
  cases f with
  | next=>obtain ⟨σ7,H7,I7,n7⟩:=q7;exact again I7 n7
  | cont=>obtain ⟨σ7,H7,I7,n7⟩:=q7;exact again I7 n7
  | brk=>obtain ⟨σ7,H7,I7,q7⟩:=q7;exact ⟨σ7,H7,I7.unpinned,q7⟩
  | ret v=>obtain ⟨x7,σ7,H7,I7,r7,q7⟩:=q7;exact ⟨x7,σ7,H7,I7.unpinned,r7,q7⟩
end
end L2
namespace L2
open PySem PySem.Spec PyProof.Rows
abbrev R2:=V->V->Hp->VK->Prop
def OpR(X:Cx)(f:Value->Value->Sem Value)(r:R2):Prop:=
 ∀ (pins:List (Addr×Obj)) (s:Shared) (σ:St) (H:Hp) (x y:V) (v u:Value) (Q:VK),Inv X pins σ H s->aR x v->aR y u->r x y H Q->
  wpAny (model X.prog X.w) X.A (f v u) (EP X pins σ Q) X.xe s
def UnR(X:Cx)(f:Value->Sem Value)(r:V->Hp->VK->Prop):Prop:=
 ∀ (pins:List (Addr×Obj)) (s:Shared) (σ:St) (H:Hp) (x:V) (v:Value) (Q:VK),Inv X pins σ H s->aR x v->r x H Q->
  wpAny (model X.prog X.w) X.A (f v) (EP X pins σ Q) X.xe s
def dY(X:Cx)(f:Value)(r:List V->Hp->VK->Prop):Prop:=
 ∀ (pins:List (Addr×Obj)) (s:Shared) (σ:St) (H:Hp) (xs:List V) (us:List Value) (Q:VK),Inv X pins σ H s->aV xs us->r xs H Q->
  wpAny (model X.prog X.w) X.A (call f us) (EP X pins σ Q) X.xe s
def tOp(r:R2)(ta tb:TE):TE:=fun σ H Q=>ta σ H fun x H1=>tb σ H1 fun y H2=>r x y H2 Q
def tUn(r:V->Hp->VK->Prop)(ta:TE):TE:=fun σ H Q=>ta σ H fun x H1=>r x H1 Q
def rI(C:Int->Int->Prop)(g:Int->Int->V):R2:=fun x y H Q=>∃ i j,x=.int i/\y=.int j/\C i j/\Q (g i j) H
def rI0(g:Int->Int->V):R2:=fun x y H Q=>∃ i j,x=.int i/\y=.int j/\Q (g i j) H
def rU(g:Int->V):V->Hp->VK->Prop:=fun x H Q=>∃ i,x=.int i/\Q (g i) H
section
variable{X:Cx}{a b c:Expr}{ta tb tc:TE}{pos:Pos}
theorem x4(ha:PE X a ta)(hb:PE X b tb){pins:List (Addr×Obj)}{s:Shared}{σ:St}{H:Hp}{R:V->V->Hp->Prop}(I:Inv X pins σ H s)
  (h:ta σ H fun x H1=>tb σ H1 fun y H2=>R x y H2) {Q:Value->Shared->Prop} {f:Value->Value->Sem Value}
  (hf:∀ v u s2 x y H2,Inv X pins σ H2 s2->aR x v->aR y u->R x y H2->wpAny (model X.prog X.w) X.A (f v u) Q X.xe s2) :
  wpAny (model X.prog X.w) X.A (eval a X.env) (fun v s₁=>wpAny (model X.prog X.w) X.A (eval b X.env) (fun u s₂=>wpAny (model X.prog X.w) X.A (f v u) Q X.xe s₂) X.xe s₁) X.xe s:=by
 refine thn (ha pins s σ H _ I h) fun v s1 zz0=>?_
 obtain ⟨x,H1,I1,r1,q1⟩:=zz0
 refine thn (hb pins s1 σ H1 _ I1 q1) fun u s2 zz0=>?_
 obtain ⟨y,H2,I2,r2,q2⟩:=zz0
 exact hf v u s2 x y H2 I2 r1 r2 q2
theorem aAD{op:Operator}{r:R2}(ho:OpR X (binaryOp op) r)(ha:PE X a ta)(hb:PE X b tb):PE X (.BinOp a op b pos) (tOp r ta tb):=by
 intro pins s σ H Q I h
 exact wpAny_BinOp (x4 ha hb I h fun v u s2 x y H2 I2 rx ry q=>ho pins s2 σ H2 x y v u Q I2 rx ry q)
theorem aFC{op:UnaryOp}{r:V->Hp->VK->Prop}(ho:UnR X (unaryOp op) r)(ha:PE X a ta):PE X (.UnaryOp op a pos) (tUn r ta):=by
 intro pins s σ H Q I h
 exact UnaryOp_ (thn (ha pins s σ H _ I h) fun v s1 ⟨x,H1,I1,r1,q1⟩=>ho pins s1 σ H1 x v Q I1 r1 q1)
theorem opI{f:Value->Value->Sem Value}{C:Int->Int->Prop}{g:Int->Int->Int}
  (rule:∀ (i j:Int) (t u:Tok) (s:Shared) (Q:Value->Shared->Prop) (E:Value->Shared->Prop),C i j->Q (.int (g i j) s.toks) {s with toks:=s.toks+1}->wpAny (model X.prog X.w) X.A (f (.int i t) (.int j u)) Q E s) :
  OpR X f (rI C fun i j=>.int (g i j)):=by
 intro pins s σ H x y v u Q I rx ry h
 obtain ⟨i,j,rfl,rfl,hc,q⟩:=h
 obtain ⟨t,rfl⟩:=rx
 obtain ⟨t',rfl⟩:=ry
 exact rule i j t t' s _ _ hc ⟨.int (g i j),H,I.tok _,⟨_,rfl⟩,q⟩
theorem aC8{f:Value->Value->Sem Value}{g:Int->Int->Int}
  (rule:∀ (i j:Int) (t u:Tok) (s:Shared) (Q:Value->Shared->Prop) (E:Value->Shared->Prop),Q (.int (g i j) s.toks) {s with toks:=s.toks+1}->wpAny (model X.prog X.w) X.A (f (.int i t) (.int j u)) Q E s) :
  OpR X f (rI0 fun i j=>.int (g i j)):=by
 intro pins s σ H x y v u Q I rx ry h
 obtain ⟨i,j,rfl,rfl,q⟩:=h
 obtain ⟨t,rfl⟩:=rx
 obtain ⟨t',rfl⟩:=ry
 exact rule i j t t' s _ _ ⟨.int (g i j),H,I.tok _,⟨_,rfl⟩,q⟩
theorem x5{f:Value->Value->Sem Value}{g:Int->Int->Bool}
  (rule:∀ (i j:Int) (t u:Tok) (s:Shared) (Q:Value->Shared->Prop) (E:Value->Shared->Prop),Q (.bool (g i j)) s->wpAny (model X.prog X.w) X.A (f (.int i t) (.int j u)) Q E s) :
  OpR X f (rI0 fun i j=>.bl (g i j)):=by
 intro pins s σ H x y v u Q I rx ry h
 obtain ⟨i,j,rfl,rfl,q⟩:=h
 obtain ⟨t,rfl⟩:=rx
 obtain ⟨t',rfl⟩:=ry
 exact rule i j t t' s _ _ ⟨.bl (g i j),H,I,rfl,q⟩
def aGS(i j:Int):Prop:=0<=j/\j<=1000000/\i.natAbs < 2 ^ 64
def x6(i j:Int):Prop:=(-(2 ^ 64) < i/\i < 2 ^ 64)\/(-(2 ^ 64) < j/\j < 2 ^ 64)
theorem x6.ok{i j:Int}(h:x6 i j):IntMulOk i j:=by
 rcases h with ⟨h1,h2⟩|⟨h1,h2⟩
 · exact .of_left (intBits_le_64 h1 h2)
 · exact .of_right (intBits_le_64 h1 h2)
theorem aC9:OpR X (binaryOp .Add) (rI0 fun i j=>.int (i+j)):=aC8 fun _ _ _ _ _ _ _ q=>add_int q
theorem aDA:OpR X (binaryOp .Sub) (rI0 fun i j=>.int (i - j)):=aC8 fun _ _ _ _ _ _ _ q=>sub_int q
theorem aDB:OpR X (binaryOp .Mult) (rI x6 fun i j=>.int (i * j)):=opI fun _ _ _ _ _ _ _ hc q=>mul_int q hc.ok
theorem aDC:OpR X (binaryOp .Mod) (rI (fun _ j=>0 < j) fun i j=>.int (i % j)):=opI fun i j _ _ _ _ _ hc q=>by
 have h1:(0:Int) < j:=hc
 exact mod_int' (by omega) (by rw[Int.fmod_eq_emod_of_nonneg i (by omega)];exact q)
theorem aDD:OpR X (binaryOp .Pow) (rI aGS fun i j=>.int (i ^ j.toNat)):=opI fun _ _ _ _ _ _ _ hc q=>pow_int_small hc.1 hc.2.1 hc.2.2 q
theorem unI{f:Value->Sem Value}{g:Int->Int}
  (rule:∀ (i:Int) (t:Tok) (s:Shared) (Q:Value->Shared->Prop) (E:Value->Shared->Prop),Q (.int (g i) s.toks) {s with toks:=s.toks+1}->wpAny (model X.prog X.w) X.A (f (.int i t)) Q E s) :
  UnR X f (rU fun i=>.int (g i)):=by
 intro pins s σ H x v Q I rx h
 obtain ⟨i,rfl,q⟩:=h
 obtain ⟨t,rfl⟩:=rx
 exact rule i t s _ _ ⟨.int (g i),H,I.tok _,⟨_,rfl⟩,q⟩
theorem aDE:UnR X (unaryOp .USub) (rU fun i=>.int (-i)):=unI fun _ _ _ _ _ q=>neg_int q
end
section
variable{X:Cx}{a b c:Expr}{ta tb tc:TE}{pos:Pos}
theorem vF{pins:List (Addr×Obj)}{σ:St}{H:Hp}{s:Shared}{Q:VK}{k k':Bool}(I:Inv X pins σ H s)(q:Q (.bl k) H)(e:k=k'):EP X pins σ Q (.bool k') s:=by
 subst e
 exact ⟨.bl k,H,I,rfl,q⟩
theorem aFD:OpR X (compareOp .Lt) (rI0 fun i j=>.bl (decide (i < j))):=x5 fun _ _ _ _ _ _ _ q=>lt_int q
theorem aFE:OpR X (compareOp .LtE) (rI0 fun i j=>.bl (decide (i<=j))):=x5 fun _ _ _ _ _ _ _ q=>le_int q
theorem aFF:OpR X (compareOp .Gt) (rI0 fun i j=>.bl (decide (j < i))):=x5 fun _ _ _ _ _ _ _ q=>gt_int q
theorem vG:OpR X (compareOp .In) (fun x y H Q=>∃ i j,x=.str i/\y=.str j/\Q (.bl (!(Builtin.Str.occurrences j i 0 j.length 1).isEmpty)) H):=by
 intro pins s σ H x y v u Q I rx ry h
 obtain ⟨i,j,rfl,rfl,q⟩:=h
 obtain ⟨t,rfl⟩:=rx
 obtain ⟨t',rfl⟩:=ry
 exact in_str (vF I q rfl)
theorem pZ:OpR X (compareOp .NotIn) (fun x y H Q=>∃ i j,x=.str i/\y=.str j/\Q (.bl (!(!(Builtin.Str.occurrences j i 0 j.length 1).isEmpty))) H):=by
 intro pins s σ H x y v u Q I rx ry h
 obtain ⟨i,j,rfl,rfl,q⟩:=h
 obtain ⟨t,rfl⟩:=rx
 obtain ⟨t',rfl⟩:=ry
 exact notIn_str (vF I q rfl)
theorem cQ(b:Expr){op:CmpOp}(h:op≠.In:=by decide)(h2:op≠.NotIn:=by decide):behindInMarks op b=false:=by
 have e1:(op == CmpOp.In)=false:=by cases op<;>first|rfl|exact absurd rfl h
 have e2:(op == CmpOp.NotIn)=false:=by cases op<;>first|rfl|exact absurd rfl h2
 cases b<;>simp[behindInMarks,e1,e2]
theorem sE{op:CmpOp}{r:R2}(ho:OpR X (compareOp op) r)(ha:PE X a ta)(hb:PE X b tb)(hm:behindInMarks op b=false):PE X (.Compare a [op] [b] pos) (tOp r ta tb):=by
 intro pins s σ H Q I h
 exact wpAny_Compare1 (x4 ha hb I h fun v u s2 x y H2 I2 rx ry q=>ho pins s2 σ H2 x y v u Q I2 rx ry q) hm
def tW(t:TE):TT:=fun σ H Q=>t σ H fun x H'=>∃ k,x=.bl k/\Q k H'
theorem nX{op:CmpOp}{r:R2}(ho:OpR X (compareOp op) r)(ha:PE X a ta)(hb:PE X b tb)(hm:behindInMarks op b=false):PT X (.Compare a [op] [b] pos) (tW (tOp r ta tb)):=by
 intro pins s σ H Q I h
 refine wpAny_isTrue_Compare1 (thn (ha pins s σ H _ I h) fun v s1 ⟨x,H1,I1,r1,q1⟩=>thn (hb pins s1 σ H1 _ I1 q1) fun u s2 ⟨y,H2,I2,r2,q2⟩=>
  thn (ho pins s2 σ H2 x y v u _ I2 r1 r2 q2) fun c s3 ⟨z,H3,I3,r3,k,e,q3⟩=>?_) hm
 subst e
 cases r3
 exact wpAny_truthy_bool ⟨H3,I3,q3⟩
def tChain(r r':R2)(ta tb tc:TE):TE:=fun σ H Q=>ta σ H fun x H1=>tb σ H1 fun y H2=>r x y H2 fun z H3=>∃ k,z=.bl k /\
 (if k=true then tc σ H3 fun w' H4=>r' y w' H4 Q else Q (.bl false) H3)
theorem x8{op op':CmpOp}{r r':R2}(ho:OpR X (compareOp op) r)(ho':OpR X (compareOp op') r')(ha:PE X a ta)(hb:PE X b tb)(hc:PE X c tc)
  (hm:lastMarks [op,op'] [b,c]=false:=by with_unfolding_all rfl):PE X (.Compare a [op,op'] [b,c] pos) (tChain r r' ta tb tc):=by
 intro pins s σ H Q I h
 refine Compare_chain (thn (ha pins s σ H _ I h) fun v s1 ⟨x,H1,I1,r1,q1⟩=>chain_link (thn (hb pins s1 σ H1 _ I1 q1) fun u s2 ⟨y,H2,I2,r2,q2⟩=>
  thn (ho pins s2 σ H2 x y v u _ I2 r1 r2 q2) fun d s3 ⟨z,H3,I3,r3,k,e,q3⟩=>?_)) hm
 subst e
 cases r3
 refine wpAny_truthy_bool ?_
 cases k with
 | false=>exact ite_ff ⟨.bl false,H3,I3,rfl,q3⟩
 | true=>exact ite_tt (chain_last (thn (hc pins s3 σ H3 _ I3 q3) fun w' s4 ⟨z',H4,I4,r4,q4⟩=>ho' pins s4 σ H4 y z' u w' Q I4 r2 r4 q4))
theorem jN{op op':CmpOp}{r r':R2}(ho:OpR X (compareOp op) r)(ho':OpR X (compareOp op') r')(ha:PE X a ta)(hb:PE X b tb)(hc:PE X c tc)
  (hm:lastMarks [op,op'] [b,c]=false:=by with_unfolding_all rfl):PT X (.Compare a [op,op'] [b,c] pos) (tW (tChain r r' ta tb tc)):=by
 intro pins s σ H Q I h
 refine isTrue_chain (thn (ha pins s σ H _ I h) fun v s1 ⟨x,H1,I1,r1,q1⟩=>test_link (thn (hb pins s1 σ H1 _ I1 q1) fun u s2 ⟨y,H2,I2,r2,q2⟩=>
  thn (ho pins s2 σ H2 x y v u _ I2 r1 r2 q2) fun d s3 ⟨z,H3,I3,r3,k,e,q3⟩=>?_)) hm
 subst e
 cases r3
 refine wpAny_truthy_bool ?_
 cases k with
 | false=>
  obtain ⟨k',e',q'⟩:=q3
  cases e'
  exact ite_ff ⟨H3,I3,q'⟩
 | true=>
  refine ite_tt (test_last (thn (hc pins s3 σ H3 _ I3 q3) fun w' s4 ⟨z',H4,I4,r4,q4⟩=>thn (ho' pins s4 σ H4 y z' u w' _ I4 r2 r4 q4) fun d' s5 zz0=>?_))
  obtain ⟨z2,H5,I5,r5,k2,e2,q5⟩:=zz0
  subst e2
  cases r5
  exact wpAny_truthy_bool ⟨H5,I5,q5⟩
theorem kL:(sizeLine:Nat) < 2 ^ 63:=by rw[sizeLine_eq];decide
theorem tX:OpR X (binaryOp .Add) (fun x y H Q=>∃ i j,x=.str i/\y=.str j/\i.length+j.length<=sizeLine/\Q (.str (i++j)) H):=by
 intro pins s σ H x y v u Q I rx ry h
 obtain ⟨i,j,rfl,rfl,hz,q⟩:=h
 obtain ⟨t,rfl⟩:=rx
 obtain ⟨t',rfl⟩:=ry
 exact add_str (fun t' tk=>⟨.str (i++j),H,I.tok _,⟨_,rfl⟩,q⟩) hz
theorem iX{x:V}{us:List Value}(r:aV [x] us):∃ u,us=[u]/\aR x u:=by
 cases r with
 | cons r1 r2=>cases r2;exact ⟨_,rfl,r1⟩
theorem mS{x y:V}{us:List Value}(r:aV [x,y] us):∃ u w',us=[u,w']/\aR x u/\aR y w':=by
 cases r with
 | cons r1 r2=>
  cases r2 with
  | cons r3 r4=>cases r4;exact ⟨_,_,rfl,r1,r3⟩
theorem vH(hc:X.calm=true):dY X (.builtin "max") (fun xs H Q=>∃ i j,xs=[.int i,.int j]/\Q (.int (if j > i then j else i)) H):=by
 intro pins s σ H xs us Q I r h
 obtain ⟨i,j,rfl,q⟩:=h
 obtain ⟨u,w',rfl,⟨t,rfl⟩,⟨t',rfl⟩⟩:=mS r
 refine max_two_ints (I.ok.hd hc) fun h' tk k=>⟨_,H,I.kept k,?_,q⟩
 by_cases hj:j > i
 · rw [if_pos hj, if_pos hj]; exact ⟨_, rfl⟩
 · rw [if_neg hj, if_neg hj]; exact ⟨_, rfl⟩
def aDF(K:Frag)(x:V)(H:Hp)(n:Nat):Prop:=
 match x with
 | .str y=>y.length<=sizeLine/\n=y.length
 | .byt y=>y.size<=sizeLine/\n=y.size
 | .ref p=>(∃ xs,SqL K H p xs/\n=xs.length)\/∃ xs,SqT K H p xs/\n=xs.length
 | _=>False
theorem cE:dY X (.builtin "len") (fun xs H Q=>∃ x n,xs=[x]/\aDF X.K x H n/\Q (.int n) H):=by
 intro pins s σ H xs us Q I r h
 obtain ⟨x,n,rfl,e,q⟩:=h
 obtain ⟨u,rfl,rx⟩:=iX r
 have hl:=kL
 have hs:sizeLine=16777216:=sizeLine_eq
 cases x with
 | str y=>
  obtain ⟨t,rfl⟩:=rx
  obtain ⟨hy,e'⟩:y.length<=sizeLine/\n=y.length:=e
  subst e'
  exact len_str (by omega) ⟨.int _,H,I.tok _,⟨_,rfl⟩,q⟩
 | byt y=>
  obtain ⟨t,rfl⟩:=rx
  obtain ⟨hy,e'⟩:y.size<=sizeLine/\n=y.size:=e
  subst e'
  exact PySem.W.len_bytes (by omega) ⟨.int _,H,I.tok _,⟨_,rfl⟩,q⟩
 | ref p=>
  cases rx
  have e':(∃ xs,SqL X.K H p xs/\n=xs.length)\/∃ xs,SqT X.K H p xs/\n=xs.length:=e
  rcases e' with ⟨xs,hx,e'⟩|⟨xs,hx,e'⟩
  ·subst e'
   obtain ⟨its,r',pl,hz⟩:=I.list hx
   have hlen:=r'.length
   exact Calls.call_len_list pl.isList (by simp only[List.size_toArray];omega) ⟨.int xs.length,H,I.tok _,⟨_,by simp only[List.size_toArray];rw[hlen]⟩,q⟩
  ·subst e'
   obtain ⟨its,r',pl,hz⟩:=I.tuple hx
   have hlen:=r'.length
   exact len_tuple pl (by simp only[List.size_toArray];omega) ⟨.int xs.length,H,I.tok _,⟨_,by simp only[List.size_toArray];rw[hlen]⟩,q⟩
 | _=>exact (show False from e).elim
end
end L2
namespace L2
open PySem PySem.Spec PyProof.Rows
structure ObjM(h:Heap)(x dx C:Addr)(mA:Str->Option Value):Prop where
 obj:h.get? x=some (PySem.W.instObj C dx)
 ns:h.Ns1 dx mA
 ne:dx≠x
theorem oV{h:Heap}{dx:Addr}{mA:Str->Option Value}(n:h.Ns1 dx mA):∃ od,h.get? dx=some od/\∀ name,PySem.W.lookIn name od=some (mA name):=by
 obtain ⟨o,es,ep,ho,hd,hk,_,hm⟩:=n
 refine ⟨o,ho,fun name=>?_⟩
 have e:=hm name
 unfold nsFind findBy at e
 rw[<-Array.find?_toList] at e
 unfold PySem.W.lookIn
 rw[hd]
 dsimp only
 split
 ·rename_i y q
  rw[q] at e
  exact congrArg some e
 ·rename_i q
  rw[q] at e
  have a:es.toList.any (·.refKey)=false:=by
   rw[List.any_eq_false]
   intro y hy
   obtain ⟨z,t,hkey⟩:=hk y (Array.mem_toList_iff.mp hy)
   simp[DictEntry.refKey,hkey]
  have a':¬ es.toList.any (·.refKey)=true:=by rw[a];exact Bool.false_ne_true
  rw[if_neg a']
  exact congrArg some e
theorem ObjM.look{h:Heap}{x dx C:Addr}{mA:Str->Option Value}(I:ObjM h x dx C mA):∃ od,PySem.W.InstAt h x (PySem.W.instObj C dx) C (some od)/\∀ name,PySem.W.lookIn name od=some (mA name):=
 let ⟨od,ho,hl⟩:=oV I.ns
 ⟨od,⟨I.obj,rfl,rfl,ho⟩,hl⟩
section
variable{prog:Program}{w:World}{A:Around}{E:Value->Shared->Prop}{s:Shared}{K:Frag}{x dx C f:Addr}{mA:Str->Option Value}{name:Str}{v:Value}
end
theorem gX.some_of{v:V}{o:Option Value}(r:gX (some v) o):∃ u,o=some u/\aR v u:=by
 cases o with
 | none=>exact (show False from r).elim
 | some u=>exact ⟨u,rfl,r⟩
section
variable{P:Program}{w:World}{H H':Hp}{h h':Heap}{a C dx:Addr}{fs fs':List (Str×V)}
theorem aA4(hok:HOk P w H h)(e:H a=some (.ins C dx fs)):∃ mA,ObjM h a dx C mA/\(∀ f,gX (fs.lookup f) (mA f))/\PySem.Within mA (fs.map (·.1))/\fs.length<=1000/\H dx=some (.own a):=by
 obtain ⟨d,z,ne,ob,mA,n,r,q⟩:=(show bW P w H h a (.ins C dx fs) from hok a _ e)
 exact ⟨mA,⟨ob,n,ne⟩,r,q,z,d⟩
end
structure Cls(K:Frag)(C:Addr):Prop where
 pg:PySem.W.plainGet K C Str.empty=true
 hd:PySem.W.hasDictIn K C=true
 po:PySem.W.plainOver K C=true
 sa:PySem.W.findIn K (.ref C) "__setattr__"=some (some (.builtin "object.__setattr__"))
theorem Cls.get{K:Frag}{C:Addr}(c:Cls K C)(f:Str):PySem.W.plainGet K C f=true:=c.pg
structure Con(K:Frag)(C:Addr)(f:Str)(v:V)(u:Value):Prop where
 at_:PySem.W.findIn K (.ref C) f=some (some u)
 rel:aR v u
 get:PySem.W.specialIn K u "__get__"=some none
 cp:PySem.W.copiedNames.contains f=false
structure Meth(K:Frag)(C:Addr)(m:Str)(f:Addr):Prop where
 at_:PySem.W.findIn K (.ref C) m=some (some (.ref f))
 fn:PySem.W.isFn K (.ref f)=true
 kp:PySem.W.keepIn K (.ref f)=true
section
variable{X:Cx}{pins:List (Addr×Obj)}{σ:St}{H:Hp}{s:Shared}{a C dx:Addr}{fs:List (Str×V)}{f:Str}{v:V}{A:Around}{E:Value->Shared->Prop}
end
section
variable{X:Cx}{pins:List (Addr×Obj)}{σ:St}{H:Hp}{s:Shared}{A:Around}{E:Value->Shared->Prop}{Q:Value->Shared->Prop}{c:Value}{b:Bool}
inductive TyOf(K:Frag)(H:Hp):V->Value->Prop where
 | non:TyOf K H .non (.type "NoneType")
 | bl (x:Bool):TyOf K H (.bl x) (.type "bool")
 | int (i:Int):TyOf K H (.int i) (.type "int")
 | str (x:Str):TyOf K H (.str x) (.type "str")
 | flt (x:UInt64):TyOf K H (.flt x) (.type "float")
 | lst {a:Addr} {xs:List V} (e:H a=some (.lst xs)):TyOf K H (.ref a) (.type "list")
 | frz {a:Addr} {o:Obj} {xs:List V} (e:H a=some (.frz o (.lst xs))):TyOf K H (.ref a) (.type "list")
 | tup {a:Addr} {xs:List V} (e:H a=some (.tup xs)):TyOf K H (.ref a) (.type "tuple")
 | dK {a:Addr} {kvs:List (Key×V)} (e:H a=some (.dK kvs)):TyOf K H (.ref a) (.type "dict")
 | dT {a:Addr} {kvs:List (List Key×V)} (e:H a=some (.dT kvs)):TyOf K H (.ref a) (.type "dict")
 | ins {a C dx:Addr} {fs:List (Str×V)} (e:H a=some (.ins C dx fs)) (cl:Cls K C) (ha:PySem.W.findIn K (.ref C) "__class__"=some (some (.builtin "object.__class__")))
  (hn:PySem.W.specialIn K (.builtin "object.__class__") "__get__"=some (some (.builtin "getset_descriptor.__get__"))) (htk:PySem.W.takesIn K (.builtin "object.__class__")=some true)
  (hm:PySem.W.mroIn K C (.type "object")=some true):TyOf K H (.ref a) (.ref C)
theorem vI{x:V}{u t:Value}(I:Inv X pins σ H s)(rx:aR x u)(ty:TyOf X.K H x t)(e:PySem.W.kitOne X.K t c=some b)(h:∀ tk,Q (.bool b) {s with toks:=tk}) :
  wpAny (model X.prog X.w) A (call (.builtin "isinstance") [u,c]) Q E s:=by
 cases ty with
 | non=>cases (show u=Value.none from rx);exact PySem.W.kia_one PySem.W.kitx_none I.kIn True.intro e (fun z=>nomatch z) h
 | bl y=>cases (show u=Value.bool y from rx);exact PySem.W.kia_one PySem.W.kitx_bool I.kIn True.intro e (fun z=>nomatch z) h
 | int i=>obtain ⟨t,q⟩:=(show ∃ t,u=Value.int i t from rx);cases q;exact PySem.W.kia_one PySem.W.kitx_int I.kIn True.intro e (fun z=>nomatch z) h
 | str y=>obtain ⟨t,q⟩:=(show ∃ t,u=Value.str y t from rx);cases q;exact PySem.W.kia_one PySem.W.kitx_str I.kIn True.intro e (fun z=>nomatch z) h
 | flt y=>obtain ⟨t,q⟩:=(show ∃ t,u=Value.float y t from rx);cases q;exact PySem.W.kia_one PySem.W.kitx_float I.kIn True.intro e (fun z=>nomatch z) h
 | @lst a xs ea=>
  cases (show u=Value.ref a from rx)
  obtain ⟨_,_,n,_,h1⟩:=(show bW X.prog X.w H s.heap a (.lst xs) from I.hok a _ ea)
  exact PySem.W.kia_one PySem.W.kitx_list I.kIn ⟨_,h1,rfl⟩ e (fun z=>nomatch z) h
 | @frz a ob xs ea=>
  cases (show u=Value.ref a from rx)
  obtain ⟨_,_,_,n,_,h1⟩:=(show bW X.prog X.w H s.heap a (.frz ob (.lst xs)) from I.hok a _ ea)
  exact PySem.W.kia_one PySem.W.kitx_list I.kIn ⟨_,h1,rfl⟩ e (fun z=>nomatch z) h
 | @tup a xs ea=>
  cases (show u=Value.ref a from rx)
  obtain ⟨_,_,_,p⟩:=(show bW X.prog X.w H s.heap a (.tup xs) from I.hok a _ ea)
  obtain ⟨o,h1,h2,_⟩:=p
  exact PySem.W.kia_one PySem.W.kitx_tuple I.kIn ⟨o,h1,h2⟩ e (fun z=>nomatch z) h
 | @dK a kvs ea=>
  cases (show u=Value.ref a from rx)
  obtain ⟨_,_,vs,_,p⟩:=(show bW X.prog X.w H s.heap a (.dK kvs) from I.hok a _ ea)
  obtain ⟨o,es,ep,h1,h2,_⟩:=p
  exact PySem.W.kia_one PySem.W.kitx_dict I.kIn ⟨o,h1,h2.1⟩ e (fun z=>nomatch z) h
 | @dT a kvs ea=>
  cases (show u=Value.ref a from rx)
  obtain ⟨_,_,xs,_,o,es,ep,h1,h2,_⟩:=(show bW X.prog X.w H s.heap a (.dT kvs) from I.hok a _ ea)
  exact PySem.W.kia_one PySem.W.kitx_dict I.kIn ⟨o,h1,h2.1⟩ e (fun z=>nomatch z) h
 | @ins a C dx fs ea cl ha hn htk hm=>
  cases (show u=Value.ref a from rx)
  obtain ⟨mA,O,_⟩:=aA4 I.hok ea
  obtain ⟨od,J,_⟩:=O.look
  exact PySem.W.kia_one (PySem.W.kitx_own (cl.get _) cl.hd ha hn htk hm) I.kIn J e (fun z=>nomatch z) h
end
end L2
namespace L2
open PySem PySem.Spec PyProof.Rows
structure Room(k:Nat)(A:Around):Prop where
 hd:A.handled=none
 dp:A.depth+3 * k+5 < recursionLimit
 un:A.units+16 * k+200 < cLine
theorem Room.mono{j k:Nat}{A:Around}(r:Room k A)(h:j<=k):Room j A:=⟨r.hd,by have:=r.dp;omega,by have:=r.un;omega⟩
theorem Room.deeper{k:Nat}{A:Around}(r:Room (k+1) A)(env:Env):Room k (A.deeper env):=
 ⟨r.hd,by have:=r.dp;show A.depth+1+3 * k+5 < _;omega,by have:=r.un;show A.units+3+16 * k+200 < _;omega⟩
theorem Room.depth{k:Nat}{A:Around}(r:Room k A):A.depth < recursionLimit:=by have:=r.dp;omega
theorem Room.units{k:Nat}{A:Around}(r:Room k A):A.units+64 < cLine:=by have:=r.un;omega
def eJ:TA:=fun _ H Q=>Q [] H
def cS(ta:TE)(tr:TA):TA:=fun σ H Q=>ta σ H fun x H1=>tr σ H1 fun xs H2=>Q (x::xs) H2
section
variable{X:Cx}{e:Expr}{es:List Expr}{te:TE}{t:TA}{pos:Pos}
theorem aU:PA X [] eJ:=fun _ _ _ _ H Q I h=>Calls.spliced_nil ⟨[],H,I,.nil,h⟩
theorem aM(ha:PE X e te)(hr:PA X es t)(hs:starEach (e::es) X.env=(false,eval e X.env)::starEach es X.env:=by rfl):PA X (e::es) (cS te t):=by
 intro pos pins s σ H Q I h
 rw[hs]
 show wpAny _ _ (spliced ((false,eval e X.env)::backTo pos (starEach es X.env))) _ _ s
 refine Calls.spliced_cons (thn (ha pins s σ H _ I h) fun u s1 zz0=>?_)
 obtain ⟨x,H1,I1,r1,q1⟩:=zz0
 exact thn (hr pos pins s1 σ H1 _ I1 q1) fun us s2 ⟨xs,H2,I2,r2,q2⟩=>⟨x::xs,H2,I2,.cons r1 r2,q2⟩
def aGT(t:TA):TE:=fun σ H Q=>t σ H fun xs H1=>xs.length<=sizeLine/\∀ p,H1 p=none->Q (.ref p) (upd H1 p (.tup xs))
def aGU(t:TA):TE:=fun σ H Q=>t σ H fun xs H1=>xs.length<=sizeLine/\∀ p,H1 p=none->Q (.ref p) (upd H1 p (.lst xs))
theorem aDG{x1}(h:PA X es t):PE X (.Tuple es x1 pos) (aGT t):=by
 intro pins s σ H Q I hq
 refine wpAny_Tuple_spliced (thn (h pos pins s σ H _ I hq) fun us s1 ⟨xs,H1,I1,r,z,q⟩=>⟨by rw[<-r.length];exact z,?_⟩)
 have hf:H1 s1.heap.objs.size=none:=I1.hok.fresh (Nat.le_refl _)
 refine ⟨.ref s1.heap.objs.size,upd H1 s1.heap.objs.size (.tup xs),I1.laid (t':=s1.toks) (fun b u e=>Heap.get?_push_of_some _ e) (Nat.le_refl _) ?_,rfl,q _ hf⟩
 exact ⟨z,us,r,⟨_,Heap.get?_push_size _ rfl,rfl,_,rfl⟩⟩
theorem aDH(h:PA X es t):PE X (.List es pos) (aGU t):=by
 intro pins s σ H Q I hq
 refine wpAny_List_spliced (thn (h pos pins s σ H _ I hq) fun us s1 ⟨xs,H1,I1,r,z,q⟩=>⟨by rw[<-r.length];exact z,?_⟩)
 have hf:H1 s1.heap.objs.size=none:=I1.hok.fresh (Nat.le_refl _)
 refine ⟨.ref s1.heap.objs.size,upd H1 s1.heap.objs.size (.lst xs),I1.laid (t':=s1.toks) (fun b u e=>Heap.get?_push_of_some _ e) (Nat.le_refl _) ?_,rfl,q _ hf⟩
 exact ⟨z,us,0,r,Heap.get?_push_size _ rfl⟩
end
abbrev Sp:=List V->Hp->VK->XK->Prop
abbrev CXT:=List Env->Hp->Shared->XK->Value->Shared->Prop
structure Env0(P:Program)(w:World)(K:Frag)(mg:Str->Option Value)(base:Heap)(A:Around)(outer:List Env)(s:Shared)(H:Hp):Prop where
 frames:A.frames=some outer
 mod:Mod K mg base
 bs:∀ b o,base.get? b=some o->s.heap.get? b=some o/\H b=none
 bsz:base.objs.size<=s.heap.objs.size
 funs:s.heap.FunFrames base outer
 frf:∀ b∈frs outer,H b=none
 hok:HOk P w H s.heap
 bare:AllBare s.gens
def CE(outer:List Env)(P:Program)(w:World)(H:Hp)(s:Shared)(Q:VK)(u:Value)(s':Shared):Prop:=
 ∃ v H',s'.os=s.os/\AllBare s'.gens/\Un (frs outer) [] H H' s.heap s'.heap/\HOk P w H' s'.heap/\aR v u/\Q v H'
def CR(CX:CXT)(outer:List Env)(P:Program)(w:World)(H:Hp)(s:Shared)(Q:VK)(E:XK)(r:Result)(s':Shared):Prop:=
 match r with
 | .ok (.ret u)=>CE outer P w H s Q u s'
 | .ok _=>False
 | .error e=>CX outer H s E e s'
structure FnOk(P:Program)(w:World)(K:Frag)(mg:Str->Option Value)(base:Heap)(CX:CXT)(k:Nat)(f:Addr)(fd:FuncData)(ps:List Str)(sp:Sp):Prop where
 len:∀ vs H Q E,sp vs H Q E->vs.length=ps.length
 run:∀ (A:Around) (outer:List Env) (s:Shared) (H:Hp) (args:Args) (us:List Value) (vs:List V) (Q:VK) (E:XK),Room k A->Env0 P w K mg base A outer s H->BindsTo s fd args (ps.zip us)->aV vs us->sp vs H Q E->
  codeAny (model P w) A (.call (.ref f) args) (CR CX outer P w H s Q E) s
theorem FnOk.imp{P:Program}{w:World}{K:Frag}{mg:Str->Option Value}{base:Heap}{CX:CXT}{k:Nat}{f:Addr}{fd:FuncData}{ps:List Str}{sp sp':Sp}(F:FnOk P w K mg base CX k f fd ps sp)
  (h:∀ vs H Q E,sp' vs H Q E->sp vs H Q E):FnOk P w K mg base CX k f fd ps sp':=
 ⟨fun vs H Q E q=>F.len vs H Q E (h _ _ _ _ q),fun A outer s H args us vs Q E hr he hb hv hs=>F.run A outer s H args us vs Q E hr he hb hv (h _ _ _ _ hs)⟩
section
variable{X:Cx}{pins:List (Addr×Obj)}{σ:St}{H:Hp}{s s':Shared}
theorem Inv.env0(I:Inv X pins σ H s):Env0 X.prog X.w X.K X.mg X.base X.A X.stack s H:=
 ⟨I.ok.frames,I.ok.mod,I.bs,Nat.le_trans I.ok.bsz I.sz,I.stack,I.stkFree,I.hok,I.bare⟩
theorem Inv.after{Q:VK}{u:Value}(I:Inv X pins σ H s)(h:CE X.stack X.prog X.w H s Q u s'):EP X pins σ Q u s':=by
 obtain ⟨v,H',os,bare,un,hok,r,q⟩:=h
 obtain ⟨hh,g,d,t,os'⟩:=s'
 obtain rfl:os'=s.os:=os
 exact ⟨v,H',I.call (h':=hh) (g':=g) (d':=d) (t':=t) (ch:=[]) un hok bare (fun b z=>absurd z (by simp)),r,q⟩
end
def tY(sp:Sp)(dvs:List V)(E:XK)(t:TA):TE:=fun σ H Q=>t σ H fun vs H1=>sp (vs++dvs) H1 Q E
def gF(K:Frag)(fd:FuncData)(ps:List Str)(ds:List Value):Prop:=
 ∀ (s:Shared) (us:List Value),K.In s.heap->(us++ds).length=ps.length->BindsTo s fd ⟨us,[]⟩ (ps.zip (us++ds))
theorem gF.all{K:Frag}{fd:FuncData}{ps:List Str}(h:∀ us:List Value,us.length=ps.length->bindArgs fd ⟨us,[]⟩=pure (ps.zip us)):gF K fd ps []:=fun s us _ hl=>by
 rw[List.append_nil] at hl ⊢
 exact .of_eq (h us hl)
def mT(CX:CXT)(X:Cx)(E:XK):Prop:=∀ (pins:List (Addr×Obj)) (σ:St) (H:Hp) (s:Shared) (e:Value) (s':Shared),Inv X pins σ H s->CX X.stack H s E e s'->X.xe e s'
section
variable{X:Cx}{CX:CXT}{k:Nat}{f C:Addr}{fd:FuncData}{ps:List Str}{sp:Sp}{dvs:List V}{ds:List Value}{E:XK}{x m:Str}{p pos apos:Pos}{e o:Expr}{es:List Expr}{ta:TE}{t:TA}
theorem aDI{pins:List (Addr×Obj)}{σ:St}{H:Hp}{s:Shared}{Q:VK}{us:List Value}{vs:List V}(F:FnOk X.prog X.w X.K X.mg X.base CX k f fd ps sp)(hr:Room k X.A)(hb:gF X.K fd ps ds)(hd:aV dvs ds)(hx:mT CX X E)
  (I:Inv X pins σ H s) (r:aV vs us) (h:sp (vs++dvs) H Q E):wpAny (model X.prog X.w) X.A (call (.ref f) us) (EP X pins σ Q) X.xe s:=by
 have r2:aV (vs++dvs) (us++ds):=r.append hd
 have hl:(us++ds).length=ps.length:=by rw[<-r2.length];exact F.len _ _ _ _ h
 refine wpAny_call (codeAny_mono (F.run X.A X.stack s H ⟨us,[]⟩ (us++ds) (vs++dvs) Q E hr I.env0 (hb s us I.kIn hl) r2 h) fun r s' hq=>?_)
 cases r with
 | error e=>exact hx pins σ H s e s' I hq
 | ok fl=>
  cases fl with
  | ret u=>exact I.after hq
  | next=>exact False.elim hq
  | brk=>exact False.elim hq
  | cont=>exact False.elim hq
theorem aA5(F:FnOk X.prog X.w X.K X.mg X.base CX k f fd ps sp)(hr:Room k X.A)(hg:Gl X x)(hm:X.mg x=some (.ref f))(hk:PySem.W.keepIn X.K (.ref f)=true)(hb:gF X.K fd ps ds)(hd:aV dvs ds)(hx:mT CX X E)
  (ha:PA X (e::es) t) (hdb:(x == ("__debug__":Str))=false:=by decide) (he:starEach (e::es) X.env=(false,eval e X.env)::starEach es X.env:=by rfl) (hpl:(backTo pos (starEach es X.env)).any (·.1)=false:=by rfl) :
  PE X (.Call (.Name x p) (e::es) [] pos) (tY sp dvs E t):=by
 intro pins s σ H Q I h
 refine wpAny_Call_Name_kw (aA2 I hg hm ?_ hdb)
 refine PySem.W.callWith_K (h₀:=X.base) I.ok.mod.kin hk (thn (ha pos pins s σ H _ I h) fun us s1 ⟨vs,H1,I1,r,q⟩=>⟨I1.kIn,?_⟩) he hpl
 exact aDI F hr hb hd hx I1 r q
structure Mk(K:Frag)(C f:Addr):Prop where
 makes:PySem.W.makesIn K C=true
 init:PySem.W.findIn K (.ref C) "__init__"=some (some (.ref f))
 fn:PySem.W.isFn K (.ref f)=true
 kp:PySem.W.keepIn K (.ref C)=true
end
section
variable{X:Cx}{CX:CXT}{k:Nat}{f C:Addr}{fd:FuncData}{ps ks:List Str}{sp:Sp}{E:XK}{x m:Str}{p pos apos kpos:Pos}{e o:Expr}{es:List Expr}{kws:List Keyword}{te ta:TE}{t tk:TA}{nm:Option Str}
structure KBinds(K:Frag)(fd:FuncData)(ps ks:List Str)(g:List Value->List Value->List Value)(gV:List V->List V->List V):Prop where
 to:∀ (s:Shared) (us ws:List Value),K.In s.heap->(g us ws).length=ps.length->BindsTo s fd ⟨us,ks.zip ws⟩ (ps.zip (g us ws))
 rel:∀ {vs:List V} {us:List Value} {zs:List V} {ws:List Value},aV vs us->aV zs ws->aV (gV vs zs) (g us ws)
variable{g:List Value->List Value->List Value}{gV:List V->List V->List V}
end
structure FnScope(N P:List Str)(sc:Scope):Prop where
 kind:sc.kind=.function
 co:sc.isCoroutine=false
 gen:sc.isGenerator=false
 nd:N.Nodup
 pre:N.take P.length=P
 par:∀ x∈P,sc.names.lookup x=some .local\/sc.names.lookup x=some .cell
 nofree:∀ y∈sc.names,y.2≠.free
theorem oW{kindOf:Str->Option NameKind}{x:Str}:∀ {binds:List (Str×Value)} {m:Str->Option Value},(∀ v,(x,v)∉binds)->bindL kindOf binds m x=m x
 | [],_,_=>rfl
 | (n,v)::r,m,h=>by
  unfold bindL
  rw[oW fun w hw=>h w (List.mem_cons_of_mem _ hw)]
  split
  ·have:x≠n:=by rintro rfl;exact h v List.mem_cons_self
   simp[this]
  ·rfl
theorem oX{kindOf:Str->Option NameKind}{x:Str}:∀ {binds:List (Str×Value)} {m:Str->Option Value},(∀ v,(x,v)∉binds)->bindC kindOf binds m x=m x
 | [],_,_=>rfl
 | (n,v)::r,m,h=>by
  unfold bindC
  rw[oX fun w hw=>h w (List.mem_cons_of_mem _ hw)]
  split
  ·rfl
  ·have:x≠n:=by rintro rfl;exact h v List.mem_cons_self
   simp[this]
theorem oY{kindOf:Str->Option NameKind}{x:Str}{v:Value}:∀ {P:List Str} {vs:List Value} {i:Nat} {m:Str->Option Value},P.Nodup->P[i]? = some x->vs[i]? = some v->kindOf x=some .local->
  bindL kindOf (P.zip vs) m x=some v
 | [],_,_,_,_,h,_,_=>by simp at h
 | _::_,[],_,_,_,_,h,_=>by simp at h
 | p::P,w::vs,0,m,nd,h1,h2,hk=>by
  simp at h1 h2;subst h1;subst h2
  show bindL kindOf ((p,w)::P.zip vs) m p=_
  unfold bindL
  rw[oW fun v hv=>(List.nodup_cons.mp nd).1 (List.of_mem_zip hv).1,if_pos hk]
  simp
 | p::P,w::vs,i+1,m,nd,h1,h2,hk=>by
  show bindL kindOf ((p,w)::P.zip vs) m x=_
  unfold bindL
  exact oY (i:=i) (List.nodup_cons.mp nd).2 (by simpa using h1) (by simpa using h2) hk
theorem oZ{kindOf:Str->Option NameKind}{x:Str}{v:Value}:∀ {P:List Str} {vs:List Value} {i:Nat} {m:Str->Option Value},P.Nodup->P[i]? = some x->vs[i]? = some v->kindOf x≠some .local->
  bindC kindOf (P.zip vs) m x=some v
 | [],_,_,_,_,h,_,_=>by simp at h
 | _::_,[],_,_,_,_,h,_=>by simp at h
 | p::P,w::vs,0,m,nd,h1,h2,hk=>by
  simp at h1 h2;subst h1;subst h2
  show bindC kindOf ((p,w)::P.zip vs) m p=_
  unfold bindC
  rw[oX fun v hv=>(List.nodup_cons.mp nd).1 (List.of_mem_zip hv).1,if_neg hk]
  simp
 | p::P,w::vs,i+1,m,nd,h1,h2,hk=>by
  show bindC kindOf ((p,w)::P.zip vs) m x=_
  unfold bindC
  exact oZ (i:=i) (List.nodup_cons.mp nd).2 (by simpa using h1) (by simpa using h2) hk
noncomputable def fU(N:List Str)(vs:List V):St:=vs.map some++List.replicate (N.length - vs.length) none
noncomputable def fV(CX:CXT)(P:Program)(w:World)(K:Frag)(mg:Str->Option Value)(base:Heap)(N:List Str)(qual:Str)(scope:Scope)(f:Addr)(cd:Value)(A:Around)(outer:List Env)(s:Shared)(H:Hp)(E:XK):Cx where
 prog:=P
 w:=w
 K:=K
 mg:=mg
 base:=base
 A:=A.deeper (envOfC qual scope s.heap.objs.size f cd)
 N:=N
 s₀:=s
 H₀:=H
 env:=envOfC qual scope s.heap.objs.size f cd
 outer:=outer
 stack:=envOfC qual scope s.heap.objs.size f cd::outer
 ex:=[]
 calm:=true
 fn:=fun _=>true
 pn:=[]
 xe:=fun e s'=>wpAny (model P w) (A.deeper (envOfC qual scope s.heap.objs.size f cd)) (leaving (envOfC qual scope s.heap.objs.size f cd) e) (fun _ s''=>CX outer H s E e s'') (fun e' s''=>CX outer H s E e' s'') s'
theorem p4{sc:Scope}{n:Nat}{x:Str}(h:sc.names.lookup x=some .cell):∃ c,(cellsFrom n sc.names []).lookup x=some c:=by
 have q:=PySem.W.cellsFrom_some sc.names n [] (.inl h)
 exact Option.isSome_iff_exists.mp q
theorem vJ{CX:CXT}{P:Program}{w:World}{K:Frag}{mg:Str->Option Value}{base:Heap}{N ps:List Str}{qual:Str}{scope:Scope}{f:Addr}{cd:Value}{A:Around}{outer:List Env}{s s1:Shared}{H:Hp}{E:XK}{us:List Value}{vs:List V}
  (S:FnScope N ps scope) (hd:A.handled=none) (e0:Env0 P w K mg base A outer s H) (hl:vs.length=ps.length) (r:aV vs us)
  (x:InCallC s s.heap.objs.size (bindL (envOfC qual scope s.heap.objs.size f cd).kindOf (ps.zip us) fun _=>none) (cellsFrom (s.heap.objs.size+1) scope.names []) (bindC (envOfC qual scope s.heap.objs.size f cd).kindOf (ps.zip us) fun _=>none) s1) :
  Inv (fV CX P w K mg base N qual scope f cd A outer s H E) [] (fU N vs) H s1:=by
 have hpl:ps.length<=N.length:=by have:=congrArg List.length S.pre;rw[List.length_take] at this;omega
 obtain ⟨h1,tk,rfl,hk⟩:=x.done
 have noA:∀ b:Addr,b∉(fV CX P w K mg base N qual scope f cd A outer s H E).ex:=fun b z=>absurd (show b∈([]:List Addr) from z) (by simp)
 refine ⟨⟨e0.mod,S.kind,rfl,rfl,Nat.le_refl _,fun y z c h1 h2=>?_,fun y hy=>?_,fun y c _ h=>?_,fun _=>hd,Around.frames_deeper e0.frames,.inr ⟨rfl,rfl⟩,fun b z=>absurd z (noA b),e0.bs,e0.bsz,fun b _ _=>noA b,fun b z=>absurd z (noA b),e0.funs,e0.frf⟩,
  rfl,e0.bare,Un.kept hk,⟨_,x.toInCall.ns,fun i y v h1 h2 h3=>?_⟩,fun y c h=>⟨_,x.cell y c h⟩,e0.hok.fresh (Nat.le_refl _),fun y c h=>?_,fun p hp=>absurd (show p∈([]:List (Addr×Obj)) from hp) (by simp),e0.hok.kept hk,?_⟩
 ·exact name_of_addr x.apart (PySem.mem_of_lookup h1) (PySem.mem_of_lookup h2)
 ·have hy:scope.names.lookup y=some .cell\/scope.names.lookup y=some .free:=hy
  rcases hy with hy|hy
  ·exact p4 hy
  ·exact absurd rfl (S.nofree _ (PySem.mem_of_lookup hy))
 ·exact Nat.le_of_lt (x.above y c (PySem.mem_of_lookup h))
 ·have hi:i < vs.length:=by
   unfold fU at h2
   by_cases hi:i < vs.length
   ·exact hi
   ·rw[List.getElem?_append_right (by simpa using hi)] at h2
    rw[List.getElem?_replicate] at h2
    split at h2<;>cases h2
  have ha:vs[i]? = some v:=by
   unfold fU at h2
   rw[List.getElem?_append_left (by simpa using hi),List.getElem?_map] at h2
   cases e:vs[i]? with
   | none=>rw[e] at h2;cases h2
   | some a=>rw[e] at h2;cases h2;rfl
  obtain ⟨u,hu,rv⟩:=r.get ha
  have hp:ps[i]? = some y:=by
   rw[<-S.pre,List.getElem?_take_of_lt (by omega)];exact h1
  have ndP:ps.Nodup:=by rw[<-S.pre];exact S.nd.sublist (List.take_sublist _ _)
  refine ⟨u,rv,?_⟩
  rcases S.par y (List.mem_of_getElem? hp) with k|k
  ·exact .inl ⟨k,oY ndP hp hu k⟩
  ·obtain ⟨c,e⟩:=p4 (n:=s.heap.objs.size+1) k
   refine .inr ⟨.inl k,c,e,?_⟩
   have q:=x.cell y c e
   rw[oZ ndP hp hu (by show scope.names.lookup y≠_;rw[k];decide)] at q
   exact q
 ·exact e0.hok.fresh (Nat.le_of_lt (x.above y c (PySem.mem_of_lookup h)))
 ·unfold fU
  show _=N.length
  rw[List.length_append,List.length_map,List.length_replicate]
  omega
theorem aAE{CX:CXT}{P:Program}{w:World}{K:Frag}{mg:Str->Option Value}{base:Heap}{k:Nat}{f:Addr}{name qual:Str}{params:Arguments}{body:List Stmt}{scope:Scope}{dV kV doc pm cdv ct oc:Value}{an od:Option Addr}
  {osl:Array (Option Value)} {N ps:List Str} {sp:Sp} (lk:K.lookup f=some ⟨oc,od,.func (PySem.W.fnOf name qual params body scope dV kV doc pm an cdv ct),osl⟩) (hcd:PySem.W.codeIn K cdv qual=true) (S:FnScope N ps scope)
  (len:∀ vs H Q E,sp vs H Q E->vs.length=ps.length)
  (hbody:∀ (A:Around) (outer:List Env) (s:Shared) (H:Hp) (vs:List V) (Q:VK) (E:XK),Room k (A.deeper (envOfC qual scope s.heap.objs.size f cdv))->sp vs H Q E->
   ∃ t,PSs (fV CX P w K mg base N qual scope f cdv A outer s H E) body t/\t {nx:=fun _ H'=>Q .non H',rt:=Q} (fU N vs) H) :
  FnOk P w K mg base CX (k+1) f (PySem.W.fnOf name qual params body scope dV kV doc pm an cdv ct) ps sp:=by
 refine ⟨len,fun A outer s H args us vs Q E hr e0 hb r hsp=>?_⟩
 have hl:=len _ _ _ _ hsp
 have KX:K.In s.heap:=e0.mod.kin.keeps fun b o e=>(e0.bs b o e).1
 have lim:s.heap.NoLimit:=e0.mod.nolimit.keeps fun b o e=>(e0.bs b o e).1
 have hkind:∀ y∈ps.zip us,scope.names.lookup y.1=some .local\/(scope.names.lookup y.1=some .cell/\((cellsFrom (s.heap.objs.size+1) scope.names []).lookup y.1).isSome=true):=fun zz0 hy=>by
  obtain ⟨n,v⟩:=zz0
  rcases S.par n (List.of_mem_zip hy).1 with q|q
  ·exact .inl q
  ·exact .inr ⟨q,PySem.W.cellsFrom_some _ _ _ (.inl q)⟩
 refine codeAny_call_function hr.depth (KX _ _ lk) rfl S.co S.gen rfl (PySem.W.codeRec_of KX hcd) (hb _ _ _ _ ?_)
 refine wpAny_newFunctionEnv_cells S.kind hkind fun env he s1 x=>?_
 subst he
 refine ⟨lim.keeps x.toInCall.keep,codeAny_func ?_⟩
 obtain ⟨t,ht,hq⟩:=hbody A outer s H vs Q E (hr.deeper _) hsp
 have I:Inv (fV CX P w K mg base N qual scope f cdv A outer s H E) [] (fU N vs) H s1:=vJ S hr.hd e0 hl r x
 refine wpAny_mono (ht [] s1 (fU N vs) H _ I hq) (fun fl s' hs=>?_) fun e s' hs=>hs
 have fin:∀ {σ':St} {H':Hp} {v:V} {u:Value},Inv (fV CX P w K mg base N qual scope f cdv A outer s H E) [] σ' H' s'->aR v u->Q v H'->CE outer P w H s Q u s':=
  fun {σ' H' v u} J rv q=>⟨v,H',J.os,J.bare,J.base,J.hok,rv,q⟩
 cases fl with
 | ret u=>
  obtain ⟨v,σ',H',J,rv,q⟩:=hs
  exact fin J rv q
 | next=>
  obtain ⟨σ',H',J,q⟩:=hs
  exact fin (v:=V.non) (u:=Value.none) J rfl q
 | brk=>
  obtain ⟨_,_,_,q⟩:=hs
  exact False.elim q
 | cont=>
  obtain ⟨_,_,_,q⟩:=hs
  exact False.elim q
end L2
namespace L2
open PySem PySem.Spec PyProof.Rows
section
variable{X:Cx}{x:Str}{p pos:Pos}{e:Expr}{es:List Expr}{t:TA}{id T:String}{r:List V->Hp->VK->Prop}
def tCB(r:List V->Hp->VK->Prop)(t:TA):TE:=fun σ H Q=>t σ H fun vs H1=>r vs H1 Q
theorem bU(hc:dY X (.builtin id) r)(hg:Gl X x)(hm:X.mg x=none)(hv:bootBuiltins x=some (.builtin id))(ha:PA X (e::es) t)(hn:x≠"__name__":=by decide)(hdb:(x == ("__debug__":Str))=false:=by decide)
  (he:starEach (e::es) X.env=(false,eval e X.env)::starEach es X.env:=by rfl) (hpl:(backTo pos (starEach es X.env)).any (·.1)=false:=by rfl):PE X (.Call (.Name x p) (e::es) [] pos) (tCB r t):=by
 intro pins s σ H Q I h
 refine wpAny_Call_Name_kw (gL I hg hm hv ?_ hn hdb)
 exact PyProof.Rows.callWith_builtin1 (thn (ha pos pins s σ H _ I h) fun us s1 ⟨vs,H1,I1,r1,q1⟩=>hc pins s1 σ H1 vs us Q I1 r1 q1) he hpl
theorem cK(hc:dY X (.type T) r)(hg:Gl X x)(hm:X.mg x=none)(hv:bootBuiltins x=some (.type T))(ha:PA X (e::es) t)(hn:x≠"__name__":=by decide)(hdb:(x == ("__debug__":Str))=false:=by decide)
  (he:starEach (e::es) X.env=(false,eval e X.env)::starEach es X.env:=by rfl) (hpl:(backTo pos (starEach es X.env)).any (·.1)=false:=by rfl):PE X (.Call (.Name x p) (e::es) [] pos) (tCB r t):=by
 intro pins s σ H Q I h
 refine wpAny_Call_Name_kw (gL I hg hm hv ?_ hn hdb)
 exact PyProof.Rows.callWith_type1 (thn (ha pos pins s σ H _ I h) fun us s1 ⟨vs,H1,I1,r1,q1⟩=>hc pins s1 σ H1 vs us Q I1 r1 q1) he hpl
end
end L2
namespace HT
open PySem PyProof.Rows
section
open PySem.SeqAt
open PySem.AutoSeq1 (wpAny_loadPart')
open PySem.MeetsSeq PySem.MeetsSeq2 PySem.MeetsSeq3
end
section
variable{prog:Program}{w:World}{A:Around}{E:Value->Shared->Prop}{s:Shared}
theorem aA6{t b:Addr}{vs ws:List Value}{Q:Value->Shared->Prop}(ht:IsTup s.heap t vs.toArray)(hb:IsTup s.heap b ws.toArray)(hv:vs≠[])
  (h1:ws=[]->Q (.ref t) s) (h2:ws≠[]->Q (.ref s.heap.objs.size) {s with heap:=s.heap.push {cls:=.type "tuple",data:=.seq (vs++ws).toArray}})
  (hsz:vs.length+ws.length<=sizeLine):wpAny (model prog w) A (binaryOp .Add (.ref t) (.ref b)) Q E s:=by
 obtain ⟨⟨cls,dd,data,sl⟩,ho,hc,n,hd⟩:=id ht
 obtain ⟨⟨cls2,dd2,data2,sl2⟩,ho2,hc2,n2,hd2⟩:=id hb
 simp only at hc hd hc2 hd2
 subst hc hd hc2 hd2
 have e:vs.toArray++ws.toArray=(vs++ws).toArray:=by simp
 by_cases hw:ws=[]
 ·exact concat_meets ⟨_,ho,rfl⟩ ⟨_,ho2,rfl⟩ noFill_tuple_add seq_tuple_add PySem.F.slot_tuple_add PySem.F.entry_tuple_add (PySem.F.args_tuple_add_2 _ _)
   (tuple_addW1 t b vs.toArray ws.toArray n n2 dd dd2 sl sl2 (by simpa using hv) (by simp[hw])) ⟨ho,ho2,h1 hw⟩
 ·refine concat_meets ⟨_,ho,rfl⟩ ⟨_,ho2,rfl⟩ noFill_tuple_add seq_tuple_add PySem.F.slot_tuple_add PySem.F.entry_tuple_add (PySem.F.args_tuple_add_2 _ _)
   (tuple_addW2 t b vs.toArray ws.toArray n n2 dd dd2 sl sl2 (by simpa using hv) (by simpa using hw) (by rw[List.size_toArray,List.size_toArray];exact hsz)) ⟨ho,ho2,?_⟩
  rw[e]
  exact h2 hw
noncomputable def sIx(n d:Nat):Option Int->Nat
 | none=>d
 | some v=>if v < 0 then (v+(n:Int)).toNat else min v.toNat n
theorem jO(n d:Nat):sIx n d none=d:=rfl
theorem lL(n d k:Nat):sIx n d (some (k:Int))=min k n:=by
 show (if (k:Int) < 0 then ((k:Int)+(n:Int)).toNat else min (k:Int).toNat n)=min k n
 rw[if_neg (by omega),Int.toNat_natCast]
theorem aDJ(n d:Nat)(hd:d<=n)(o:Option Int):sIx n d o<=n:=by
 cases o with
 | none=>exact hd
 | some v=>
  show (if v < 0 then (v+(n:Int)).toNat else min v.toNat n)<=n
  by_cases hv:v < 0
  · rw [if_pos hv]; omega
  · rw [if_neg hv]; exact Nat.min_le_right _ _
theorem sG(v:Int)(n d:Nat):(if v < 0 then max (v+(n:Int)) 0 else min v (n:Int))=((sIx n d (some v):Nat):Int):=by
 show (if v < 0 then max (v+(n:Int)) 0 else min v (n:Int))=(((if v < 0 then (v+(n:Int)).toNat else min v.toNat n):Nat):Int)
 by_cases hv:v < 0
 · simp only [if_pos hv]; omega
 · simp only [if_neg hv]; omega
theorem tZ(lo hi:Option Int)(n:Nat):Builtin.Slice.sliceAdjust lo hi 1 (n:Int)=(((sIx n 0 lo:Nat):Int),((sIx n n hi:Nat):Int)):=by
 have h1:¬ ((1:Int) < 0):=by omega
 unfold Builtin.Slice.sliceAdjust
 simp only[h1,if_false]
 refine Prod.ext ?_ ?_
 ·cases lo with
  | none=>rfl
  | some v=>exact sG v n 0
 ·cases hi with
  | none=>rfl
  | some v=>exact sG v n n
theorem t4(i j:Nat):Builtin.Slice.slicePlaces (i:Int) (j:Int) 1=j - i:=by
 unfold Builtin.Slice.slicePlaces
 have h1:(1:Int) > 0:=by omega
 simp only[h1,if_true,Int.ediv_one]
 split<;>omega
theorem mU{v:Value}{o:Option Int}{Q:Option Int->Shared->Prop}(p:IsPart v o)(h:Q o s):wpAny (model prog w) A (Builtin.Slice.slicePartIndex v) Q E s:=by
 cases p with
 | none=>exact slicePart_none h
 | int i t=>exact slicePart_int h
theorem l9{sl:Addr}{vl vu:Value}{lo hi:Option Int}{n:Nat}{Q:Int×Int×Nat->Shared->Prop}(hs:s.heap.IsSliceOf sl vl vu .none)(pl:IsPart vl lo)(pu:IsPart vu hi)
  (h:Q (((sIx n 0 lo:Nat):Int),1,sIx n n hi - sIx n 0 lo) s):wpAny (model prog w) A (Builtin.Slice.sliceApplied (.ref sl) (pure (n:Int))) Q E s:=by
 obtain ⟨os,hos,hcs,hds⟩:=id hs
 unfold Builtin.Slice.sliceApplied Builtin.Slice.sliceFields
 refine wpAny_bind (wpAny_bind (wpAny_field hos hds (x:=vl) rfl (wpAny_bind (wpAny_field hos hds (x:=vu) rfl (wpAny_bind (wpAny_field hos hds (x:=.none) rfl (wpAny_pure ?_)))))))
 refine wpAny_bind (slicePart_none ?_)
 show wpAny _ _ (if ((1:Int) == 0)=true then _ else _) _ _ s
 rw[if_neg (by decide)]
 refine wpAny_bind (mU pl (wpAny_bind (mU pu (wpAny_bind (wpAny_pure ?_)))))
 show wpAny _ _ (match Builtin.Slice.sliceAdjust lo hi 1 (n:Int) with|(lo,hi)=>pure (lo,(1:Int),Builtin.Slice.slicePlaces lo hi 1)) _ _ s
 rw[tZ lo hi n]
 show wpAny _ _ (pure (((sIx n 0 lo:Nat):Int),(1:Int),Builtin.Slice.slicePlaces ((sIx n 0 lo:Nat):Int) ((sIx n n hi:Nat):Int) 1)) _ _ s
 rw[t4]
 exact wpAny_pure h
theorem x9(xs:Array Value)(i k:Nat):((List.range k).filterMap fun (m:Nat)=>xs[((i:Int)+(m:Int) * 1).toNat]?).toArray=((xs.toList.drop i).take k).toArray:=by
 have e:(fun (m:Nat)=>xs[((i:Int)+(m:Int) * 1).toNat]?)=fun m=>xs[i+m]?:=by
  funext m
  have:((i:Int)+(m:Int) * 1).toNat=i+m:=by omega
  rw[this]
 rw[e]
 have:=pick_run xs i k
 rw[List.filterMap_map] at this
 have e2:((fun x=>xs[x]?)∘fun x=>i+x)=fun m=>xs[i+m]?:=rfl
 rw[e2] at this
 rw[this]
theorem lV{t sl:Addr}{items:Array Value}{vl vu:Value}{lo hi:Option Int}{Q:Value->Shared->Prop}(ht:IsTup s.heap t items)(hs:s.heap.IsSliceOf sl vl vu .none)(pl:IsPart vl lo)(pu:IsPart vu hi)
  (hw:¬ (sIx items.size 0 lo=0/\sIx items.size items.size hi=items.size))
  (h:Q (.ref s.heap.objs.size) {s with heap:=s.heap.push {cls:=.type "tuple",data:=.seq ((items.toList.drop (sIx items.size 0 lo)).take (sIx items.size items.size hi - sIx items.size 0 lo)).toArray}})
  (hsz:items.size<=sizeLine):wpAny (model prog w) A (getItem (.ref t) (.ref sl)) Q E s:=by
 have htake:sizeOk (.seq ((items.toList.drop (sIx items.size 0 lo)).take (sIx items.size items.size hi - sIx items.size 0 lo)).toArray):=by
  show ((items.toList.drop (sIx items.size 0 lo)).take (sIx items.size items.size hi - sIx items.size 0 lo)).toArray.size<=sizeLine
  rw[List.size_toArray,List.length_take,List.length_drop,Array.length_toList]
  omega
 have hj:sIx items.size items.size hi<=items.size:=aDJ _ _ (Nat.le_refl _) hi
 obtain ⟨os,hos,hcs,hds⟩:=id hs
 have hTs:s.TypeIs (.ref sl) "slice":=⟨os,hos,hcs⟩
 unfold getItem
 try with_reducible refine wpAny_holding ?_
 first|refine wpAny_bind (wpAny_pure ?_)|skip
 refine wpAny_bind (wpAny_sequenceKey ht.typeIs (by decide) ?_)
 refine wpAny_bind (wpAny_callSpecial?_slot (name:=Str.ofString "__getitem__") ht.typeIs PyProof.Rows.slot_tuple_getitem
  (wpAny_call_entry PyProof.Rows.slot_tuple_getitem ht.typeIs entry_tuple_getitem ?_ (args_tuple_getitem _ _)))
 show wpAny _ _ (Builtin.Tuple.tupleItemsOf (.ref t) >>= _) _ _ s
 refine wpAny_bind (tupleItemsOf_ ht ?_)
 refine wpAny_bind (wpAny_typeOf hTs ?_)
 rw[if_pos (by decide)]
 refine wpAny_bind (l9 hs pl pu ?_)
 have hno:¬ ((((sIx items.size 0 lo:Nat):Int) == 0 && (1:Int) == 1 && (sIx items.size items.size hi - sIx items.size 0 lo) == items.size)=true):=by
  intro q
  rw[Bool.and_eq_true,Bool.and_eq_true] at q
  have q1:((sIx items.size 0 lo:Nat):Int)=0:=eq_of_beq q.1.1
  have q2:sIx items.size items.size hi - sIx items.size 0 lo=items.size:=eq_of_beq q.2
  exact hw ⟨by omega,by omega⟩
 show wpAny _ _ (if (((sIx items.size 0 lo:Nat):Int) == 0 && (1:Int) == 1 && (sIx items.size items.size hi - sIx items.size 0 lo) == items.size)=true then _ else _) _ _ s
 rw[if_neg hno,x9]
 first
  | exact wpAny_bind (m:=Builtin.Tuple.tupleExact _) (wpAny_newObj_type (wpAny_pure ⟨_,rfl,wpAny_pure h⟩) htake)
  | exact wpAny_bind (m:=Builtin.Tuple.tupleExact _) (wpAny_newObj_type (wpAny_bind (wpAny_pure (wpAny_pure ⟨_,rfl,wpAny_pure h⟩))) htake)
  | exact wpAny_bind (wpAny_bind (m:=Builtin.Tuple.tupleExact _) (wpAny_newObj_type (wpAny_pure (wpAny_pure ⟨_,rfl,wpAny_pure h⟩)) htake))
  | exact wpAny_bind (wpAny_bind (m:=Builtin.Tuple.tupleExact _) (wpAny_newObj_type (wpAny_pure ⟨_,rfl,wpAny_pure h⟩) htake))
end
end HT
namespace L2
open PySem PySem.Spec PyProof.Rows
abbrev TO:=St->Hp->(Option Int->Hp->Prop)->Prop
def PO(X:Cx)(e:Option Expr)(t:TO):Prop:=
 ∀ (pins:List (Addr×Obj)) (s:Shared) (σ:St) (H:Hp) (Q:Option Int->Hp->Prop),Inv X pins σ H s->t σ H Q->
  wpAny (model X.prog X.w) X.A (evalPart e X.env) (fun u s'=>∃ o H',Inv X pins σ H' s'/\IsPart u o/\Q o H') X.xe s
def aA7:TO:=fun _ H Q=>Q none H
def aFG(t:TE):TO:=fun σ H Q=>t σ H fun x H1=>∃ i,x=.int i/\Q (some i) H1
section
variable{X:Cx}{e:Expr}{te:TE}{lo hi:Option Expr}{tl th:TO}{pos p2:Pos}
theorem aA8:PO X none aA7:=by
 intro pins s σ H Q I h
 rw[evalPart_none]
 exact wpAny_pure ⟨none,H,I,.none,h⟩
theorem aA9(h:PE X e te):PO X (some e) (aFG te):=by
 intro pins s σ H Q I hw
 rw[evalPart_some]
 refine thn (h pins s σ H _ I hw) fun u s1 zz0=>?_
 obtain ⟨x,H1,I1,r1,q1⟩:=zz0
 obtain ⟨i,rfl,q⟩:=q1
 obtain ⟨t,rfl⟩:=r1
 exact ⟨some i,H1,I1,.int i t,q⟩
def SlR(X:Cx)(r:V->Option Int->Option Int->Hp->VK->Prop):Prop:=
 ∀ (pins:List (Addr×Obj)) (s:Shared) (σ:St) (H:Hp) (x:V) (v vl vu:Value) (lo hi:Option Int) (sl:Addr) (Q:VK),Inv X pins σ H s->aR x v->s.heap.IsSliceOf sl vl vu .none->IsPart vl lo->IsPart vu hi->r x lo hi H Q->
  ∃ T id,typeLookup (.type T) "__getitem__"=pure (some (.builtin id))/\s.TypeIs v T/\wpAny (model X.prog X.w) X.A (getItem v (.ref sl)) (EP X pins σ Q) X.xe s
def tSl(r:V->Option Int->Option Int->Hp->VK->Prop)(te:TE)(tl th:TO):TE:=fun σ H Q=>te σ H fun x H1=>tl σ H1 fun l H2=>th σ H2 fun u H3=>r x l u H3 Q
theorem yA{r:V->Option Int->Option Int->Hp->VK->Prop}(hr:SlR X r)(he:PE X e te)(hl:PO X lo tl)(hu:PO X hi th):PE X (.Subscript e (.Slice lo hi none p2) pos) (tSl r te tl th):=by
 intro pins s σ H Q I h
 refine Subscript_ (thn (he pins s σ H _ I h) fun v s1 zz0=>?_)
 obtain ⟨x,H1,I1,r1,q1⟩:=zz0
 refine wpAny_Slice (thn (hl pins s1 σ H1 _ I1 q1) fun vl s2 ⟨l,H2,I2,pl,q2⟩=>thn (hu pins s2 σ H2 _ I2 q2) fun vu s3 zz0=>?_)
 obtain ⟨u,H3,I3,pu,q3⟩:=zz0
 rw[evalPart_none]
 refine wpAny_pure ?_
 have I4:Inv X pins σ H3 {s3 with heap:=s3.heap.push {cls:=.type "slice",data:=.fields #[vl,vu,.none]}}:=I3.kept (t':=s3.toks) fun b ob q=>Heap.get?_push_of_some _ q
 obtain ⟨T,id,hT,ht,hg⟩:=hr pins {s3 with heap:=s3.heap.push {cls:=.type "slice",data:=.fields #[vl,vu,.none]}} σ H3 x v vl vu l u s3.heap.objs.size Q I4 r1 (Heap.IsSliceOf.new ..) pl pu q3
 show wpAny (model X.prog X.w) X.A (subscriptTail e (.Slice lo hi none p2) v (.ref s3.heap.objs.size)) (EP X pins σ Q) X.xe {s3 with heap:=s3.heap.push {cls:=.type "slice",data:=.fields #[vl,vu,.none]}}
 exact tail_any (ops:=[.ref s3.heap.objs.size,v]) ht hT hg (by with_unfolding_all rfl)
noncomputable def kM(xs:List V)(lo hi:Option Int):List V:=(xs.drop (HT.sIx xs.length 0 lo)).take (HT.sIx xs.length xs.length hi - HT.sIx xs.length 0 lo)
theorem lY(xs:List V)(lo hi:Option Int):(kM xs lo hi).length<=xs.length:=by
 unfold kM
 rw[List.length_take,List.length_drop]
 omega
def aGV(K:Frag):V->Option Int->Option Int->Hp->VK->Prop:=fun x lo hi H Q=>∃ a xs,x=.ref a/\SqT K H a xs /\
 ¬ (HT.sIx xs.length 0 lo=0/\HT.sIx xs.length xs.length hi=xs.length)/\∀ p,H p=none->Q (.ref p) (upd H p (.tup (kM xs lo hi)))
theorem aDK:SlR X (aGV X.K):=by
 intro pins s σ H x v vl vu lo hi sl Q I rx hs pl pu h
 obtain ⟨a,xs,rfl,hx,hw,q⟩:=h
 cases rx
 obtain ⟨its,r,ht,hz⟩:=I.tuple hx
 have hlen:its.toArray.size=xs.length:=by rw[List.size_toArray];exact r.length.symm
 refine ⟨"tuple",_,PyProof.Rows.slot_tuple_getitem.lookup,ht.typeIs,?_⟩
 refine HT.lV ht hs pl pu (by rw[hlen];exact hw) ?_ (by rw[hlen];exact hz)
 rw[hlen]
 refine ⟨.ref s.heap.objs.size,_,I.laid (t':=s.toks) (o:=.tup (kM xs lo hi)) (fun b ob q=>Heap.get?_push_of_some _ q) (Nat.le_refl _) ?_,rfl,q _ (I.hok.fresh (Nat.le_refl _))⟩
 exact ⟨Nat.le_trans (lY xs lo hi) hz,_,(r.drop (HT.sIx xs.length 0 lo)).take (HT.sIx xs.length xs.length hi - HT.sIx xs.length 0 lo),IsTup.new _ _⟩
def aFH(K:Frag):R2:=fun x y H Q=>∃ a b xs ys,x=.ref a/\y=.ref b/\SqT K H a xs/\SqT K H b ys/\xs≠[]/\xs.length+ys.length<=sizeLine /\
 (ys=[]->Q (.ref a) H)/\(ys≠[]->∀ p,H p=none->Q (.ref p) (upd H p (.tup (xs++ys))))
theorem aV.nil_iff{xs:List V}{us:List Value}(r:aV xs us):us=[]↔xs=[]:=by
 cases r with
 | nil=>simp
 | cons _ _=>simp
theorem aBA:OpR X (binaryOp .Add) (aFH X.K):=by
 intro pins s σ H x y v u Q I rx ry h
 obtain ⟨a,b,xs,ys,rfl,rfl,ha,hb,hx,hz,q1,q2⟩:=h
 cases rx
 cases ry
 obtain ⟨its,r1,p1,_⟩:=I.tuple ha
 obtain ⟨its2,r2,p2,_⟩:=I.tuple hb
 refine HT.aA6 p1 p2 (fun z=>hx (r1.nil_iff.mp z)) (fun z=>⟨.ref a,H,I,rfl,q1 (r2.nil_iff.mp z)⟩) (fun z=>?_) (by rw[<-r1.length,<-r2.length];exact hz)
 refine ⟨.ref s.heap.objs.size,_,I.laid (t':=s.toks) (o:=.tup (xs++ys)) (fun b ob q=>Heap.get?_push_of_some _ q) (Nat.le_refl _) ?_,rfl,q2 (fun w=>z (r2.nil_iff.mpr w)) _ (I.hok.fresh (Nat.le_refl _))⟩
 exact ⟨by rw[List.length_append];exact hz,_,r1.append r2,IsTup.new _ _⟩
end
end L2
namespace L2
open PySem PySem.Spec PyProof.Rows
noncomputable def ixN(n:Nat)(i:Int):Option Nat:=if 0<=i then (if i < n then some i.toNat else none) else if -(n:Int)<=i then some (i+n).toNat else none
noncomputable def atI{α:Type}(xs:List α)(i:Int):Option α:=(ixN xs.length i).bind fun j=>xs[j]?
theorem sH{n:Nat}{i:Int}{j:Nat}(h:ixN n i=some j):seqIndex? i n=some j/\j < n /\ -(n:Int)<=i/\i < n:=by
 unfold ixN at h
 by_cases h0:0<=i
 ·rw[if_pos h0] at h
  by_cases h1:i < n
  ·rw[if_pos h1] at h
   have e:i.toNat=j:=Option.some.inj h
   exact ⟨by rw[seqIndex_of h0 h1,e],by omega,by omega,h1⟩
  ·rw[if_neg h1] at h;cases h
 ·rw[if_neg h0] at h
  by_cases h1 : -(n:Int)<=i
  ·rw[if_pos h1] at h
   have e:(i+n).toNat=j:=Option.some.inj h
   exact ⟨by rw[seqIndex_neg (by omega) h1,e],by omega,h1,by omega⟩
  ·rw[if_neg h1] at h;cases h
theorem nY{α:Type}{xs:List α}{i:Int}{v:α}(h:atI xs i=some v):∃ j,seqIndex? i xs.length=some j/\xs[j]? = some v/\j < xs.length /\ -(xs.length:Int)<=i/\i < xs.length:=by
 unfold atI at h
 cases e:ixN xs.length i with
 | none=>rw[e] at h;cases h
 | some j=>
  rw[e] at h
  obtain ⟨h1,h2,h3,h4⟩:=sH e
  exact ⟨j,h1,h,h2,h3,h4⟩
theorem eF{α:Type}{xs:List α}{j:Nat}{v:α}(h:xs[j]? = some v):atI xs (j:Int)=some v:=by
 have hj:j < xs.length:=(List.getElem?_eq_some_iff.mp h).1
 have e:ixN xs.length (j:Int)=some j:=by
  unfold ixN
  rw[if_pos (by omega),if_pos (by omega)];simp
 unfold atI;rw[e];exact h
def sI(b:Expr):Prop:=∀ o i,subscripted b false o i=operate [o,i] (getItem o i)
def IxR(X:Cx)(r:R2):Prop:=
 ∀ (value slice:Expr) (pins:List (Addr×Obj)) (s:Shared) (σ:St) (H:Hp) (x y:V) (v u:Value) (Q:VK),Inv X pins σ H s->aR x v->aR y u->r x y H Q->
  subscripted slice false v u=operate [v,u] (getItem v u)->wpAny (model X.prog X.w) X.A (subscriptTail value slice v u) (EP X pins σ Q) X.xe s
def MtR(X:Cx)(id:String)(r:V->List V->Hp->VK->Prop):Prop:=
 ∀ (pins:List (Addr×Obj)) (s:Shared) (σ:St) (H:Hp) (x:V) (xs:List V) (v:Value) (us:List Value) (Q:VK),Inv X pins σ H s->aR x v->aV xs us->r x xs H Q->
  wpAny (model X.prog X.w) X.A (call (.builtin id) (v::us)) (EP X pins σ Q) X.xe s
section
variable{X:Cx}{a b:Expr}{ta tb:TE}{pos:Pos}
theorem aFI{r:R2}(hr:IxR X r)(ha:PE X a ta)(hb:PE X b tb)(hs:sI b):PE X (.Subscript a b pos) (tOp r ta tb):=by
 intro pins s σ H Q I h
 exact Subscript_ (x4 ha hb I h fun v u s2 x y H2 I2 rx ry q=>hr a b pins s2 σ H2 x y v u Q I2 rx ry q (hs _ _))
def aGW(K:Frag):R2:=fun x y H Q=>∃ p xs i v,x=.ref p/\y=.int i/\SqL K H p xs/\atI xs i=some v/\Q v H
def aGX(K:Frag):R2:=fun x y H Q=>∃ p xs i v,x=.ref p/\y=.int i/\SqT K H p xs/\atI xs i=some v/\Q v H
def aGY:R2:=fun x y H Q=>∃ z i c,x=.str z/\y=.int i/\z.length<=sizeLine/\atI z.cps.toList i=some c/\Q (.str ⟨#[c]⟩) H
theorem aBB:IxR X (aGW X.K):=by
 intro value slice pins s σ H x y v u Q I rx ry h hs
 obtain ⟨p,xs,i,z,rfl,rfl,hq,he,q⟩:=h
 cases rx
 obtain ⟨t,rfl⟩:=ry
 obtain ⟨its,r,pl,hz⟩:=I.list hq
 obtain ⟨j,h1,h2,h3,h4,h5⟩:=nY he
 obtain ⟨w,ew,rw'⟩:=r.get h2
 have hl:=r.length
 have hn:=kL
 have fin:EP X pins σ Q w s:=⟨z,H,I,rw',q⟩
 by_cases h0:0<=i
 ·have hj:i.toNat=j:=by
   rw[seqIndex_of h0 h5] at h1
   exact Option.some.inj h1
  exact item_listR pl.isList h0 (by omega) (by rw[hj];simpa using ew) fin hs
 ·have hj:(i+(its.toArray.size:Int)).toNat=j:=by
   rw[seqIndex_neg (by omega) h4] at h1
   rw[List.size_toArray,<-hl]
   exact Option.some.inj h1
  exact subscriptTail_builtinR (x:=w) pl.isList.typeIs slot_list_getitem.lookup
   (wpAny_getItem_list_neg (Q:=fun r s'=>r=w/\EP X pins σ Q r s') pl.isList (by omega) (by rw[List.size_toArray]<;>omega) (by omega) (by rw[hj];simpa using ew) ⟨rfl,fin⟩) hs
theorem aDL:IxR X (aGX X.K):=by
 intro value slice pins s σ H x y v u Q I rx ry h hs
 obtain ⟨p,xs,i,z,rfl,rfl,hq,he,q⟩:=h
 cases rx
 obtain ⟨t,rfl⟩:=ry
 obtain ⟨its,r,pl,hz⟩:=I.tuple hq
 obtain ⟨j,h1,h2,h3,h4,h5⟩:=nY he
 obtain ⟨w,ew,rw'⟩:=r.get h2
 have hl:=r.length
 have hn:=kL
 have fin:EP X pins σ Q w s:=⟨z,H,I,rw',q⟩
 exact subscriptTail_builtinR (x:=w) pl.typeIs slot_tuple_getitem.lookup
  (getItem_tuple (j:=j) (Q:=fun r s'=>r=w/\EP X pins σ Q r s') pl (by omega) (by omega) (by rw[List.size_toArray,<-hl];exact h1) (by simpa using ew) ⟨rfl,fin⟩) hs
theorem aDM:IxR X aGY:=by
 intro value slice pins s σ H x y v u Q I rx ry h hs
 obtain ⟨z,i,c,rfl,rfl,hz,he,q⟩:=h
 obtain ⟨t,rfl⟩:=rx
 obtain ⟨t',rfl⟩:=ry
 obtain ⟨j,h1,h2,h3,h4,h5⟩:=nY he
 have hl:z.cps.toList.length=z.length:=by simp[Str.length]
 rw[hl] at h1 h4 h5
 have hn:=kL
 exact tail_any (typeIs_str s z t) slot_str_getitem.lookup (getItem_str (c:=c) (by
  have e1:decide (i < -(2 ^ 63:Int))=false:=decide_eq_false (by omega)
  have e2:decide (i>=2 ^ 63)=false:=decide_eq_false (by omega)
  rw[e1,e2,Bool.or_false]) (by rw[h1];simpa using h2) ⟨.str ⟨#[c]⟩,H,I.tok _,⟨_,rfl⟩,q⟩) hs
theorem t5(its:List Value)(n j:Nat)(u:Value):Obj.mapSeq (·.setIfInBounds j u) {cls:=.type "list",data:=.seq its.toArray n}={cls:=.type "list",data:=.seq (its.set j u).toArray n}:=by
 simp[Obj.mapSeq]
theorem Inv.lst{pins:List (Addr×Obj)}{σ:St}{H:Hp}{s:Shared}{p:Addr}{xs:List V}(I:Inv X pins σ H s)(h:H p=some (.lst xs)) :
  ∃ (its:List Value) (n:Nat),aV xs its/\s.heap.get? p=some {cls:=.type "list",data:=.seq its.toArray n}/\xs.length<=sizeLine:=by
 obtain ⟨z,its,n,r,e⟩:=I.hok p _ h
 exact ⟨its,n,r,e,z⟩
theorem Inv.lstUpd{pins:List (Addr×Obj)}{σ:St}{H:Hp}{s:Shared}{p:Addr}{xs ys:List V}{its its':List Value}{n n':Nat}{f:Obj->Obj}(I:Inv X pins σ H s)(h:H p=some (.lst xs))
  (ho:s.heap.get? p=some {cls:=.type "list",data:=.seq its.toArray n}) (hf:f {cls:=.type "list",data:=.seq its.toArray n}={cls:=.type "list",data:=.seq its'.toArray n'}) (r:aV ys its') (hz:ys.length<=sizeLine) (t:Nat) :
  Inv X pins σ (upd H p (.lst ys)) {s with heap:=s.heap.update p f,toks:=t}:=by
 have e:(s.heap.update p f).get? p=some {cls:=.type "list",data:=.seq its'.toArray n'}:=by
  rw[Heap.get?_update_self f ho (by rw[hf]<;>rfl),hf]
 refine I.write (x:=p) (e:=p) (by rw[h];trivial) (.inl rfl) (fun b u hb q=>(Heap.get?_update_other _ _ (Ne.symm hb)).trans q) ⟨_,e⟩ ?_
 exact ⟨hz,its',n',r,e⟩
def aAF:V->V->V->Hp->(Hp->Prop)->Prop:=fun o i v H Q=>∃ p xs k j,o=.ref p/\i=.int k/\H p=some (.lst xs)/\ixN xs.length k=some j/\Q (upd H p (.lst (xs.set j v)))
theorem mB:xY X aAF:=by
 intro pins s σ H o i v ov iv u Q I ro ri rv h
 obtain ⟨p,xs,k,j,rfl,rfl,hp,hj,q⟩:=h
 cases ro
 obtain ⟨t,rfl⟩:=ri
 obtain ⟨its,n,r,ho,hz⟩:=I.lst hp
 obtain ⟨h1,h2,h3,h4⟩:=sH hj
 have hl:=r.length
 have hn:=kL
 have I':Inv X pins σ (upd H p (.lst (xs.set j v))) {s with heap:=s.heap.update p (Obj.mapSeq (·.setIfInBounds j u))}:=
  I.lstUpd hp ho (t5 its n j u) (r.set rv j) (by rw[List.length_set];exact hz) s.toks
 by_cases h0:0<=k
 ·have hk:k.toNat=j:=by
   rw[seqIndex_of h0 h4] at h1
   exact Option.some.inj h1
  exact PySem.W.ki_setAt ho h0 (by omega) (by rw[List.size_toArray,<-hl];exact h4) (by rw[hk];exact ⟨_,I',q⟩)
 ·have hk:(k+(its.toArray.size:Int)).toNat=j:=by
   rw[seqIndex_neg (by omega) h3] at h1
   rw[List.size_toArray,<-hl]
   exact Option.some.inj h1
  exact PySem.W.ki_setBack ho (by omega) (by rw[List.size_toArray,<-hl];exact h3) (by omega) (by rw[hk];exact ⟨_,I',q⟩)
theorem p6(lo hi:Option Int)(n:Nat):(sliceBounds lo hi none n).1=((HT.sIx n 0 lo:Nat):Int)/\(sliceBounds lo hi none n).2.1=((HT.sIx n n hi:Nat):Int)/\(sliceBounds lo hi none n).2.2=1:=by
 refine ⟨?_,?_,rfl⟩
 ·cases lo with
  | none=>simp[sliceBounds,HT.sIx]
  | some i=>
   simp only[sliceBounds,HT.sIx,Option.getD_none,show (1:Int) > 0 by decide,if_true]
   by_cases h:i < 0
   · simp only [h, if_true] <;> omega
   · simp only [h, if_false] <;> omega
 ·cases hi with
  | none=>simp[sliceBounds,HT.sIx]
  | some i=>
   simp only[sliceBounds,HT.sIx,Option.getD_none,show (1:Int) > 0 by decide,if_true]
   by_cases h:i < 0
   · simp only [h, if_true] <;> omega
   · simp only [h, if_false] <;> omega
theorem pM(its:List Value)(lo hi:Option Int):slicePick its.toArray lo hi none=((its.drop (HT.sIx its.length 0 lo)).take (HT.sIx its.length its.length hi - HT.sIx its.length 0 lo)).toArray:=by
 obtain ⟨h1,h2,h3⟩:=p6 lo hi its.toArray.size
 unfold slicePick
 rw[h1,h2,h3]
 simp only[sliceRange_one,pick_run,List.size_toArray]<;>rfl
def aGZ(K:Frag):V->Option Int->Option Int->Hp->VK->Prop:=fun x lo hi H Q=>∃ a xs,x=.ref a/\SqL K H a xs/\∀ p,H p=none->Q (.ref p) (upd H p (.lst (kM xs lo hi)))
theorem aBC:SlR X (aGZ X.K):=by
 intro pins s σ H x v vl vu lo hi sl Q I rx hs pl pu h
 obtain ⟨a,xs,rfl,hx,q⟩:=h
 cases rx
 obtain ⟨its,r,ht,hz⟩:=I.list hx
 have hlen:=r.length
 refine ⟨"list",_,slot_list_getitem.lookup,ht.isList.typeIs,?_⟩
 refine wpAny_getItem_list_slice ht.isList hs pl pu .none (by simp) ?_ (by rw[List.size_toArray]<;>omega)
 rw[pM,<-hlen]
 refine ⟨.ref s.heap.objs.size,_,I.laid (t':=s.toks) (o:=.lst (kM xs lo hi)) (fun b ob q=>Heap.get?_push_of_some _ q) (Nat.le_refl _) ?_,rfl,q _ (I.hok.fresh (Nat.le_refl _))⟩
 exact ⟨Nat.le_trans (lY xs lo hi) hz,_,0,(r.drop (HT.sIx xs.length 0 lo)).take (HT.sIx xs.length xs.length hi - HT.sIx xs.length 0 lo),Heap.get?_push_size _ rfl⟩
theorem iJ:dY X (.type "list") (fun xs H Q=>∃ p ys,xs=[.ref p]/\(SqL X.K H p ys\/SqT X.K H p ys)/\∀ l,H l=none->Q (.ref l) (upd H l (.lst ys))):=by
 intro pins s σ H xs us Q I r h
 obtain ⟨p,ys,rfl,hq,q⟩:=h
 obtain ⟨u,rfl,rx⟩:=iX r
 cases rx
 have fin:∀ (its:List Value),aV ys its->ys.length<=sizeLine->∀ (h':Heap) (c':Nat),(∀ b o',s.heap.get? b=some o'->h'.get? b=some o')->
   h'.get? s.heap.objs.size=some {cls:=.type "list",dict:=none,data:=.seq its.toArray c',slots:=#[]}->EP X pins σ Q (.ref s.heap.objs.size) {s with heap:=h'}:=fun its r' hz h' c' kp e=>
  ⟨.ref s.heap.objs.size,_,I.laid (t':=s.toks) kp (Nat.le_refl _) (show bW X.prog X.w _ h' _ (.lst ys) from ⟨hz,its,c',r',e⟩),rfl,q _ (I.hok.fresh (Nat.le_refl _))⟩
 rcases hq with hq|hq
 ·obtain ⟨its,r',pl,hz⟩:=I.list hq
  have hlen:=r'.length
  obtain ⟨o,ho,hc,n,hd⟩:=pl.isList
  exact call_list_seq p (.inl rfl) ho hc hd (fun h' c' kp e=>fin its r' hz h' c' kp e) (by simp only[List.size_toArray]<;>omega)
 ·obtain ⟨its,r',pl,hz⟩:=I.tuple hq
  have hlen:=r'.length
  obtain ⟨o,ho,hc,n,hd⟩:=pl
  exact call_list_seq p (.inr rfl) ho hc hd (fun h' c' kp e=>fin its r' hz h' c' kp e) (by simp only[List.size_toArray]<;>omega)
theorem dE:dY X (.type "tuple") (fun xs H Q=>∃ p ys,xs=[.ref p]/\((SqL X.K H p ys/\∀ l,H l=none->Q (.ref l) (upd H l (.tup ys)))\/(SqT X.K H p ys/\Q (.ref p) H))):=by
 intro pins s σ H xs us Q I r h
 obtain ⟨p,ys,rfl,h⟩:=h
 obtain ⟨u,rfl,rx⟩:=iX r
 cases rx
 rcases h with ⟨hq,q⟩|⟨hq,q⟩
 ·obtain ⟨its,r',pl,hz⟩:=I.list hq
  have hlen:=r'.length
  refine call_tuple_list pl.isList (fun h' kp=>?_) (by simp only[List.size_toArray]<;>omega)
  have I1:Inv X pins σ H {s with heap:=h'}:=I.kept (t':=s.toks) kp
  have I2:Inv X pins σ (upd H h'.objs.size (.tup ys)) {s with heap:=h'.push {cls:=.type "tuple",data:=.seq its.toArray}}:=
   I1.laid (t':=s.toks) (fun b o e=>Heap.get?_push_of_some _ e) (Nat.le_refl _) (show bW X.prog X.w _ _ _ (.tup ys) from ⟨hz,its,r',IsTup.new _ _⟩)
  exact ⟨.ref h'.objs.size,_,I2,rfl,q _ (I1.hok.fresh (Nat.le_refl _))⟩
 ·obtain ⟨its,r',pl,hz⟩:=I.tuple hq
  exact call_tuple_same pl ⟨.ref p,H,I,rfl,q⟩
def tyV(K:Frag)(T:String)(x:V)(H:Hp):Prop:=match x with
 | .str _=>T="str"
 | .int _=>T="int"
 | .ref p=>(T="list"/\∃ xs,SqL K H p xs)\/(T="tuple"/\∃ o,K.lookup p=some o/\o.cls=.type "tuple"/\o.dict=none) \/
  (T="dict"/\((∃ kvs,H p=some (.dK kvs))\/∃ kvs,H p=some (.dT kvs)))\/(T="set"/\∃ S n,H p=some (.set S n))
 | _=>False
theorem aDN{pins:List (Addr×Obj)}{σ:St}{H:Hp}{s:Shared}{T:String}{x:V}{v:Value}(I:Inv X pins σ H s)(r:aR x v)(ty:tyV X.K T x H) :
  s.TypeIs v T/\∀ a,v=.ref a->∃ ob,s.heap.get? a=some ob/\ob.dict=none:=by
 cases x with
 | str z=>
  obtain ⟨t,rfl⟩:=r
  cases (show T="str" from ty)
  exact ⟨typeIs_str s z t,fun _ e=>nomatch e⟩
 | int i=>
  obtain ⟨t,rfl⟩:=r
  cases (show T="int" from ty)
  exact ⟨typeIs_int s i t,fun _ e=>nomatch e⟩
 | ref p=>
  cases r
  rcases ty with ⟨rfl,xs,hq⟩|⟨rfl,o,hk,hc,hd⟩|⟨rfl,hk⟩|⟨rfl,S,n,hk⟩
  ·obtain ⟨its,_,pl,_⟩:=I.list hq
   refine ⟨pl.isList.typeIs,fun a e=>?_⟩
   cases e
   obtain ⟨o,n,e,c,hd,_⟩:=pl
   exact ⟨o,e,hd⟩
  ·refine ⟨⟨o,I.kIn p o hk,hc⟩,fun a e=>?_⟩
   cases e
   exact ⟨o,I.kIn _ o hk,hd⟩
  ·have z:∃ o,s.heap.get? p=some o/\o.ExactDict:=by
    rcases hk with ⟨kvs,hk⟩|⟨kvs,hk⟩
    ·obtain ⟨_,_,_,_,o,_,_,e,ex,_⟩:=I.hok p _ hk
     exact ⟨o,e,ex⟩
    ·obtain ⟨_,_,_,_,o,_,_,e,ex,_⟩:=I.hok p _ hk
     exact ⟨o,e,ex⟩
   obtain ⟨o,e,ex⟩:=z
   refine ⟨⟨o,e,ex.1⟩,fun a e2=>?_⟩
   cases e2
   exact ⟨o,e,ex.2.1⟩
  ·obtain ⟨o,_,_,_,e,ex,_⟩:=I.hok p _ hk
   refine ⟨⟨o,e,ex.1⟩,fun a e2=>?_⟩
   cases e2
   exact ⟨o,e,ex.2.1⟩
 | _=>exact False.elim ty
def tBM(K:Frag)(T:String)(r:V->List V->Hp->VK->Prop)(to:TE)(t:TA):TE:=fun σ H Q=>to σ H fun x H1=>tyV K T x H1/\t σ H1 fun xs H2=>r x xs H2 Q
variable{o e:Expr}{es:List Expr}{to:TE}{t:TA}{name:Str}{apos cpos:Pos}{T id:String}{r:V->List V->Hp->VK->Prop}
theorem jP(pa:PlainAttrs T)(slot:Slot T name id)(hty:typeOf (.builtin id)=pure (.type "method_descriptor"))(hm:MtR X id r)(ho:PE X o to)(ha:PA X (e::es) t)
  (hbase:attributeBase o name X.env (eval o X.env)=eval o X.env:=by rfl)
  (hfew:((backTo cpos (starEach (e::es) X.env)).all (fun x=>!x.1) && (backToKw cpos (keywordEach [] X.env)).all (fun x=>x.1.isSome)
   && decide ((e::es).length+([]:List Keyword).length+(if ([]:List Keyword).isEmpty then 0 else 1) < 30))=true:=by rfl)
  (hline:(apos.endLine == cpos.line)=true:=by rfl) (hs:starEach (e::es) X.env=(false,eval e X.env)::starEach es X.env:=by rfl) (hplain:(backTo cpos (starEach es X.env)).any (·.1)=false:=by rfl) :
  PE X (.Call (.Attribute o name apos) (e::es) [] cpos) (tBM X.K T r to t):=by
 intro pins s σ H Q I h
 refine wpAny_Call_method_late hbase hfew hline rfl (thn (ho pins s σ H _ I h) fun v s1 zz0=>?_)
 obtain ⟨x,H1,I1,r1,ty,q1⟩:=zz0
 obtain ⟨h1,h2⟩:=aDN I1 r1 ty
 refine ⟨T,id,pa,slot,hty,h1,h2,?_⟩
 have hA:=ha cpos pins s1 σ H1 _ I1 q1
 rw[hs] at hA ⊢
 refine Calls.callWith_builtin (by show (false || (backTo cpos (starEach es X.env)).any (·.1))=false;rw[hplain]<;>rfl) (Calls.evalArgs_plain ?_)
 exact thn hA fun us s2 ⟨vs,H2,I2,r2,q2⟩=>hm pins s2 σ H2 x vs v us Q I2 r1 r2 q2
end
end L2
namespace L2
open PySem PySem.Spec PyProof.Rows
def MtM(X:Cx)(id:String)(r:V->List V->Hp->VK->Prop):Prop:=
 ∀ (pins:List (Addr×Obj)) (s:Shared) (σ:St) (H:Hp) (x:V) (xs:List V) (v:Value) (us:List Value) (Q:VK),Inv X pins σ H s->aR x v->aV xs us->r x xs H Q->
  wpAny (model X.prog X.w) X.A (call (.builtin id) (v::us)) (EP X pins σ Q) X.xe s
theorem aV.one:∀ {x:V} {us:List Value},aV [x] us->∃ u,us=[u]/\aR x u
 | _,_,.cons r .nil=>⟨_,rfl,r⟩
theorem aV.eraseIdx:∀ {xs:List V} {us:List Value} (i:Nat),aV xs us->aV (xs.eraseIdx i) (us.eraseIdx i)
 | _,_,_,.nil=>.nil
 | _,_,0,.cons _ t=>t
 | _,_,i+1,.cons r t=>.cons r (aV.eraseIdx i t)
theorem aV.reverse{xs:List V}{us:List Value}(h:aV xs us):aV xs.reverse us.reverse:=by
 induction h with
 | nil=>exact .nil
 | cons r t ih=>rw[List.reverse_cons,List.reverse_cons];exact aV.append ih (.cons r .nil)
theorem kN{α:Type}:∀ (l:List α) (i:Nat),(l.eraseIdx i).length<=l.length
 | [],_=>Nat.le_refl _
 | _::_,0=>Nat.le_succ _
 | _::r,i+1=>Nat.succ_le_succ (kN r i)
section
variable{X:Cx}{pins:List (Addr×Obj)}{σ:St}{H:Hp}{s:Shared}{l b:Addr}{xs ys zs:List V}
theorem Inv.lset{its its':List Value}{n:Nat}{f:Array Value->Array Value}{t':Nat}(I:Inv X pins σ H s)(hH:H l=some (.lst xs))
  (e:s.heap.get? l=some {cls:=.type "list",data:=.seq its.toArray n}) (hf:f its.toArray=its'.toArray) (hv:aV ys its') (hz:ys.length<=sizeLine) :
  Inv X pins σ (upd H l (.lst ys)) {s with heap:=s.heap.update l (Obj.mapSeq f),toks:=t'}:=by
 have q:=PySem.IsL.update e f
 rw[hf] at q
 refine I.write (x:=l) (e:=l) (by rw[hH];exact trivial) (.inl rfl) (fun b' u hb hu=>(Heap.get?_update_other s.heap (Obj.mapSeq f) (Ne.symm hb)).trans hu) ⟨_,q⟩ ?_
 exact ⟨hz,its',_,hv,q⟩
theorem Inv.lnew{its:List Value}{t':Nat}(I:Inv X pins σ H s)(hv:aV ys its)(hz:ys.length<=sizeLine) :
  Inv X pins σ (upd H s.heap.objs.size (.lst ys)) {s with heap:=s.heap.push {cls:=.type "list",data:=.seq its.toArray},toks:=t'}:=
 I.laid (fun _ _ q=>Heap.get?_push_of_some _ q) (Nat.le_refl _) ⟨hz,its,0,hv,Heap.get?_push_size _ rfl⟩
theorem Inv.fresh(I:Inv X pins σ H s):H s.heap.objs.size=none:=I.hok.fresh (Nat.le_refl _)
theorem Inv.lstM(I:Inv X pins σ H s)(hH:H l=some (.lst xs)):xs.length<=sizeLine/\∃ (its:List Value) (n:Nat),aV xs its/\xs.length=its.length/\s.heap.get? l=some {cls:=.type "list",data:=.seq its.toArray n}:=by
 obtain ⟨z,its,n,r,e⟩:=I.hok l _ hH
 exact ⟨z,its,n,r,r.length,e⟩
end
section
variable{X:Cx}
def sJ:V->List V->Hp->VK->Prop:=fun x vs H Q=>∃ l xs y,x=.ref l/\vs=[y]/\H l=some (.lst xs)/\xs.length < sizeLine/\Q .non (upd H l (.lst (xs++[y])))
theorem gN:MtM X "list.append" sJ:=by
 intro pins s σ H x vs v us Q I rx rv h
 obtain ⟨l,xs,y,rfl,rfl,hH,hz,q⟩:=h
 cases rx
 obtain ⟨u,rfl,ru⟩:=rv.one
 obtain ⟨z,its,n,r,hl,e⟩:=I.lstM hH
 refine call_meets F.slot_list_append ⟨_,e,rfl⟩ F.entry_list_append (F.args_list_append_2 _ _) (PySem.list_append l its.toArray n u (by rw[List.size_toArray];omega)) ⟨e,?_⟩
 refine ⟨.non,_,I.lset (its':=its++[u]) hH e (by simp) (r.append (.cons ru .nil)) ?_,rfl,q⟩
 rw[List.length_append,List.length_singleton]
 omega
def vK:V->List V->Hp->VK->Prop:=fun x vs H Q=>∃ l xs i k y,x=.ref l/\vs=[.int i]/\H l=some (.lst xs) /\ -(2 ^ 63)<=i/\i < 2 ^ 63/\seqIndex? i xs.length=some k/\xs[k]? = some y/\Q y (upd H l (.lst (xs.eraseIdx k)))
theorem yB:MtM X "list.pop" vK:=by
 intro pins s σ H x vs v us Q I rx rv h
 obtain ⟨l,xs,i,k,y,rfl,rfl,hH,h1,h2,hk,hy,q⟩:=h
 cases rx
 obtain ⟨u,rfl,ru⟩:=rv.one
 obtain ⟨t,rfl⟩:=ru
 obtain ⟨z,its,n,r,hl,e⟩:=I.lstM hH
 obtain ⟨w,hw,rw'⟩:=r.get hy
 refine call_meets F.slot_list_pop ⟨_,e,rfl⟩ F.entry_list_pop (F.args_list_pop_2 _ _)
  (MeetsSeq.list_pop_at l its.toArray n i t k w (fitsIndex_both h1 h2) (by rw[List.size_toArray,<-hl];exact hk) (by rw[<-Array.getElem?_toList];exact hw) (by rw[List.size_toArray];omega)) ⟨e,?_⟩
 refine ⟨y,_,I.lset (its':=its.eraseIdx k) hH e ?_ (r.eraseIdx k) ?_,rw',q⟩
 ·show its.toArray.eraseIdxIfInBounds k=(its.eraseIdx k).toArray
  rw[List.eraseIdxIfInBounds_toArray]
 ·have:=kN xs k
  omega
end
end L2
namespace Att
open PySem PySem.W PySem.Calls PyProof.Rows
theorem mV{P:Params}{h:Heap}:∀ (ns:List Int) (vs:List Value),WellAll P h vs (ns.map WData.int)->IntsAre vs ns:=by
 intro ns
 induction ns with
 | nil=>
  intro vs w
  rw[List.map_nil] at w
  cases w
  exact .nil
 | cons n ns ih=>
  intro vs w
  rw[List.map_cons] at w
  cases w with
  | cons a b=>
   cases a
   exact .cons _ _ (ih _ b)
theorem vL{l:OpenLaw}{n:Nat}(hn:l.most=some n){P:Params}{h:Heap}{args:List WData}{vals:List Value}
  (hpre:l.row.toRowW.claim.pre args=true) (hwl:WellAll P h vals args) :
  ∃ a vs ns,vals=[Value.ref a]/\args=[WData.list (ns.map WData.int)]/\h.get? a=some {cls:=.type "list",data:=.seq vs.toArray}/\IntsAre vs ns/\ns.length<=n:=by
 have hsh:WShape.hasAll [] args [.list .int]=true:=(pre_splitW hpre).1
 have hc:l.pre.holds [] {args:=args}=true:=(pre_splitW hpre).2
 obtain ⟨d,r,rfl,h1,h2⟩:=hasAllW_cons hsh
 obtain rfl:=hasAllW_nil h2
 obtain ⟨xs,rfl,h3⟩:=hasW_list h1
 obtain ⟨ns,rfl⟩:=items_int h3
 have hlen:ns.length<=n:=by
  unfold OpenLaw.pre at hc
  have h4:(WTm.not (.lt (.lit (.int (n:Int))) (.len (.arg 0)))).holds [] {args:=[.list (ns.map .int)]}=true:=by
   have h4:=(holds_andW hc).1
   rw[hn] at h4
   exact h4
  have h5:=condW_of h4 (w_not (w_lt w_lit (w_len_list (w_arg rfl))))
  rw[List.length_map] at h5
  refine Nat.le_of_not_lt fun q=>?_
  have q':(n:Int) < ((ns.length:Nat):Int):=by omega
  first
   | (rw[decide_eq_true q'] at h5;exact absurd h5 (by decide))
   | (simp at h5;omega)
 cases hwl with
 | cons w1 w2=>
  cases w2
  cases w1 with
  | list ho hall=>exact ⟨_,_,ns,rfl,rfl,ho,mV ns _ hall,hlen⟩
theorem vM(l:OpenLaw)(args:List WData):l.row.toRowW.claim.post args (.bool true) args=true:=
 postW_of (r:=l.row.toRowW) (X:=(true == true))
  (show WShape.has [] (.bool true) .bool=true by first|rfl|decide|simp[WShape.has,WShape.arms,WShape.armsAll])
  (show (WTm.eq .res (.lit (.bool true))).value [] {args:=args,res:=some (.bool true),after:=args}=some (.bool (true == true)) from w_eq_bool (w_res rfl) w_lit) rfl
theorem attach_call{l:OpenLaw}{n:Nat}{q:Program}{loose:List Str}{XP:(Str->Option Value)->Heap->Prop}{YP:World->Heap->Prop}{d:DefRec}
  (hn:l.most=some n) (hdf:d.params.defaults=[])
  (call:∀ (w:World) (s₀ s₁:Shared) (mg mb:Str->Option Value) (fa:Addr) (o:Obj) (pm cd doc:Value) (a:Addr) (vs:List Value) (ns:List Int),
   Ground q loose [] XP w s₀ mg mb s₁.heap->YP w s₁.heap->
   s₁.heap.get? fa=some o->o.data=.func (docDef d.name d.params d.body d.scope pm cd doc)->s₁.heap.CodeRec cd d.name->mg d.name=some (.ref fa)->
   s₁.heap.get? a=some {cls:=.type "list",data:=.seq vs.toArray}->IntsAre vs ns->ns.length<=n->s₁.gens = #[]->
   codeAny (model l.prog w) callerA (.call (.ref fa) ⟨[.ref a],[]⟩) (fun r s'=>r=.ok (.ret (.bool true))/\OldK s₁.heap s'.heap/\s'.os=s₁.os/\AllBare s'.gens) s₁) :
  WalkO q loose XP YP l.row.toRowW d [] (fun f vs=>PySem.call f vs):=by
 intro w s₀ s₁ mg mb G Y fa o pm cd doc dV kV ho hd hcd hD hmg hg args vals as hpre hlay hrd hwl hlo
 obtain rfl:dV=.none:=Dflts.none hD hdf
 obtain rfl:kV=.none:=Dflts.noKw hD
 obtain ⟨a,vs,ns,rfl,rfl,hobj,hints,hlen⟩:=vL hn hpre hwl
 refine enter_call (codeAny_mono (call w s₀ s₁ mg mb fa o pm cd doc a vs ns G Y ho (fd_plain hd) hcd hmg hobj hints hlen hg) fun r s' hq=>?_)
 obtain ⟨rfl,h2,h3,h4⟩:=hq
 exact ⟨.inl ⟨.bool true,.bool true,[],rfl,fun _=>rfl,.bool true,vM l _,fun _=>⟨List.Pairwise.nil,fun _ hm=>(nomatch hm)⟩⟩,h2,h3,h4⟩
section
variable{prog:Program}{w:World}{A:Around}{E:Value->Shared->Prop}{s:Shared}{K:Frag}
noncomputable def aIQ(h:Heap)(L d:Addr):List (Addr×Obj):=(List.range h.objs.size).filterMap fun a=>if a=L\/a=d then none else (h.get? a).map fun o=>(a,o)
end
end Att
namespace L2
open PySem PySem.Spec PyProof.Rows
theorem o0:∀ {vs:List Value} {ns:List Int},IntsAre vs ns->aV (ns.map V.int) vs
 | _,_,.nil=>.nil
 | _,_,.cons n t h=>.cons ⟨t,rfl⟩ (o0 h)
def yC(H:Hp):Prop:=∀ b,H b=none\/∃ o xs,H b=some (.frz o (.lst xs))
theorem yD{P:Program}{w:World}{K:Frag}{mg mb:Str->Option Value}{CX:CXT}{k:Nat}{fa a:Addr}{fd:FuncData}{x:Str}{sp:Sp}{s₁:Shared}{vs:List Value}{ns:List Int}
  (KX:K.In s₁.heap) (hns:s₁.heap.Ns mainGlobals mg) (hb:s₁.heap.Ns builtinsNs mb) (hbb:∀ x:Str,x≠"__name__"->mb x=bootBuiltins x) (hlim:s₁.heap.NoLimit) (hg:s₁.gens = #[])
  (ha:s₁.heap.get? a=some {cls:=.type "list",data:=.seq vs.toArray}) (hi:IntsAre vs ns) (hl:ns.length<=sizeLine) (hr:Room k callerA)
  (F:∀ base:Heap,K.In base->base.Ns mainGlobals mg->FnOk P w K mg base CX k fa fd [x] sp) (hbind:∀ (s:Shared) (u:Value),BindsTo s fd ⟨[u],[]⟩ [(x,u)])
  (hsp:∀ H:Hp,yC H->SqL K H a (ns.map V.int)->sp [.ref a] H (fun v _=>v=.bl true) fun _ _ _=>False)
  (hCX:∀ H e s',CX [] H s₁ (fun _ _ _=>False) e s'->False) :
  codeAny (model P w) callerA (.call (.ref fa) ⟨[.ref a],[]⟩) (fun r s'=>r=.ok (.ret (.bool true))/\OldK s₁.heap s'.heap/\s'.os=s₁.os/\AllBare s'.gens) s₁:=by
 have rv:=o0 hi
 have lenV:=hi.length
 have core:∀ H:Hp,yC H->SqL K H a (ns.map V.int)->HOk P w H s₁.heap->(∀ b,H b≠none->b=a)->(H a≠none->K.lookup a=none)->
   codeAny (model P w) callerA (.call (.ref fa) ⟨[.ref a],[]⟩) (fun r s'=>r=.ok (.ret (.bool true))/\OldK s₁.heap s'.heap/\s'.os=s₁.os/\AllBare s'.gens) s₁:=by
  intro H hO hS hok hA hK
  have base_of:∀ {b:Addr} {o:Obj},s₁.heap.get? b=some o->H b=none->(jM s₁.heap H).get? b=some o:=fun e n=>xW e n
  have noA:∀ {b:Addr} {o:Obj} {es:Array DictEntry} {ep:Nat},s₁.heap.get? b=some o->o.data=.dict es ep->H b=none:=fun {b o es ep} e d=>by
   cases q:H b with
   | none=>rfl
   | some u=>
    have e':b=a:=hA b (by rw[q];simp)
    subst e'
    rw[ha] at e;cases e
    have d':Data.seq vs.toArray _=Data.dict es ep:=d
    cases d'
  have nsK:∀ {b:Addr} {m:Str->Option Value},s₁.heap.Ns b m->(jM s₁.heap H).Ns b m:=fun {b m} ⟨o,es,ep,e,d,r⟩=>⟨o,es,ep,base_of e (noA e d),d,r⟩
  have hKb:K.In (jM s₁.heap H):=fun b o e=>base_of (KX b o e) (by
   cases q:H b with
   | none=>rfl
   | some u=>
    have e':b=a:=hA b (by rw[q];simp)
    subst e'
    rw[hK (by rw[q];simp)] at e;cases e)
  have hM:Mod K mg (jM s₁.heap H):=⟨hKb,nsK hns,⟨mb,nsK hb,hbb⟩,let ⟨mc,h1,h2⟩:=hlim;⟨mc,nsK h1,h2⟩⟩
  have e0:Env0 P w K mg (jM s₁.heap H) callerA [] s₁ H:=⟨rfl,hM,fun b o e=>aA0 e,Nat.le_of_eq (vA _ _),trivial,fun b hb=>absurd (show b∈([]:List Addr) from hb) (by simp),hok,.of_eq hg⟩
  refine codeAny_mono ((F _ hKb (nsK hns)).run callerA [] s₁ H ⟨[.ref a],[]⟩ [.ref a] [.ref a] _ _ hr e0 (hbind s₁ (.ref a)) (.cons rfl .nil) (hsp H hO hS)) fun r s' h=>?_
  cases r with
  | error e=>exact (hCX H e s' h).elim
  | ok fl=>
   cases fl with
   | next=>exact False.elim h
   | brk=>exact False.elim h
   | cont=>exact False.elim h
   | ret u=>
    obtain ⟨v,H',os,bare,un,hok',r',q⟩:=h
    have q':v=.bl true:=q
    subst q'
    obtain rfl:u=Value.bool true:=r'
    refine ⟨rfl,OldK.of_keep fun b o e=>?_,os,bare⟩
    cases q:H b with
    | none=>exact un.keep b o e q (by intro z;exact absurd (show b∈([]:List Addr) from z) (by simp)) (by simp)
    | some u=>
     rcases hO b with z|⟨ob,xs,z⟩
     ·rw[q] at z;cases z
     ·have z2:=un.frzs b ob _ z
      obtain ⟨e1,_⟩:=hok b _ z
      obtain ⟨e2,_⟩:=hok' b _ z2
      rw[e] at e1;cases e1
      exact e2
 cases hk:K.lookup a with
 | some o=>
  have e:=KX a o hk
  rw[ha] at e
  cases e
  refine core (fun _=>none) (fun _=>.inl rfl) (.inr ⟨_,vs.toArray,_,hk,rfl,rfl,rfl,by rw[List.size_toArray,lenV];exact hl,by simpa using rv⟩) (fun b u z=>by have z':(none:Option HO)=some u:=z;cases z') (fun b z=>absurd rfl z) fun z=>absurd rfl z
 | none=>
  refine core (fun b=>if b=a then some (.frz {cls:=.type "list",data:=.seq vs.toArray} (.lst (ns.map V.int))) else none) (fun b=>?_) (.inl (.inr ⟨{cls:=.type "list",data:=.seq vs.toArray},if_pos rfl⟩)) (fun b u z=>?_) (fun b z=>?_) fun _=>hk
  ·by_cases hb:b=a
   ·exact .inr ⟨_,_,if_pos hb⟩
   ·exact .inl (if_neg hb)
  ·by_cases hb:b=a
   ·have z':=(if_pos hb).symm.trans z
    cases z'
    subst hb
    exact ⟨ha,by rw[List.length_map];exact hl,vs,_,rv,ha⟩
   ·have z':=(if_neg hb).symm.trans z
    cases z'
  ·by_cases hb:b=a
   ·exact hb
   ·exact absurd (if_neg hb) z
end L2
namespace L2
open PySem PySem.Spec PyProof.Rows
abbrev KOf{K:Frag}{h:Heap}(_:K.In h):Frag:=K
theorem walk_of{l:PySem.W.OpenLaw}{n k:Nat}{q:Program}{loose:List Str}{XP:(Str->Option Value)->Heap->Prop}{YP:World->Heap->Prop}{d:DefRec}{K:Params->Frag}{CX:World->CXT}{sp:World->Sp}{x:Str}
  (hn:l.most=some n) (hn2:n<=sizeLine) (hdf:d.params.defaults=[]) (hr:Room k callerA)
  (hY:∀ (w:World) (h:Heap),YP w h->(K w.params).In h)
  (F:∀ (w:World) (mg:Str->Option Value) (fa:Addr) (h:Heap),(K w.params).In h->h.Ns mainGlobals mg->mg d.name=some (.ref fa)->
   ∃ fd:FuncData,(∀ (s:Shared) (u:Value),BindsTo s fd ⟨[u],[]⟩ [(x,u)]) /\
    ∀ base:Heap,(K w.params).In base->base.Ns mainGlobals mg->FnOk l.prog w (K w.params) mg base (CX w) k fa fd [x] (sp w))
  (hsp:∀ (w:World) (H:Hp) (a:Addr) (ns:List Int),ns.length<=n->yC H->SqL (K w.params) H a (ns.map V.int)->sp w [.ref a] H (fun v _=>v=.bl true) fun _ _ _=>False)
  (hCX:∀ (w:World) (H:Hp) (s:Shared) (e:Value) (s':Shared),CX w [] H s (fun _ _ _=>False) e s'->False) :
  PySem.W.WalkO q loose XP YP l.row.toRowW d [] (fun f vs=>PySem.call f vs):=by
 refine Att.attach_call hn hdf fun w s₀ s₁ mg mb fa o pm cd doc a vs ns G Y ho hd hcd hmg hobj hints hlen hg=>?_
 have KX:=hY w _ Y
 obtain ⟨fd,hb,hF⟩:=F w mg fa _ KX G.T.g hmg
 exact yD KX G.T.g G.T.b G.T.builtins G.T.nolimit hg hobj hints (Nat.le_trans hlen hn2) hr hF hb (fun H hO hS=>hsp w H a ns hlen hO hS) fun H e s'=>hCX w H s₁ e s'
end L2
namespace L2
open PySem PySem.Spec PyProof.Rows
noncomputable def eX(s:Stmt):Arguments:=match s with
 | .FunctionDef _ a _ _ _ _ _ _ _ _=>a
 | _=>{posonlyargs:=[],args:=[],vararg:=none,kwonlyargs:=[],kw_defaults:=[],kwarg:=none,defaults:=[]}
noncomputable def dC(s:Stmt):List Stmt:=match s with
 | .FunctionDef _ _ b _ _ _ _ _ _ _=>b
 | _=>[]
noncomputable def aP(s:Stmt):Scope:=match s with
 | .FunctionDef _ _ _ _ _ _ sc _ _ _=>sc
 | _=>{kind:=.function,names:=[],isGenerator:=false,isCoroutine:=false}
abbrev CX0:CXT:=fun _ _ _ _ _ _=>False
abbrev E0:XK:=fun _ _ _=>False
structure Fun(K:Frag)(x qual:Str)(st:Stmt)(f:Addr)(fd:FuncData):Prop where
 ex:∃ (oc:Value) (od:Option Addr) (kV doc pm:Value) (an:Option Addr) (cdv ct:Value) (osl:Array (Option Value)),
  fd=PySem.W.fnOf x qual (eX st) (dC st) (aP st) .none kV doc pm an cdv ct/\K.lookup f=some ⟨oc,od,.func fd,osl⟩/\PySem.W.codeIn K cdv qual=true
 kp:PySem.W.keepIn K (.ref f)=true
section
variable{P:Program}{w:World}{K:Frag}{mg:Str->Option Value}{base:Heap}
theorem Fun.ok{x qual:Str}{st:Stmt}{f:Addr}{fd:FuncData}{N ps:List Str}{k:Nat}{sp:Sp}(F:Fun K x qual st f fd)(S:FnScope N ps (aP st))(len:∀ vs H Q E,sp vs H Q E->vs.length=ps.length)
  (hbody:∀ (cdv:Value) (A:Around) (outer:List Env) (s:Shared) (H:Hp) (vs:List V) (Q:VK) (E:XK),Room k (A.deeper (envOfC qual (aP st) s.heap.objs.size f cdv))->sp vs H Q E->
   ∃ t,PSs (fV CX0 P w K mg base N qual (aP st) f cdv A outer s H E).nox (dC st) t/\t {nx:=fun _ H'=>Q .non H',rt:=Q} (fU N vs) H):FnOk P w K mg base CX0 (k+1) f fd ps sp:=by
 obtain ⟨oc,od,kV,doc,pm,an,cdv,ct,osl,rfl,lk,hcd⟩:=F.ex
 refine aAE lk hcd S len fun A outer s H vs Q E hr hsp=>?_
 obtain ⟨t,h,q⟩:=hbody cdv A outer s H vs Q E hr hsp
 exact ⟨t,h.nox,q⟩
theorem Fun.binds{x qual:Str}{st:Stmt}{f:Addr}{fd:FuncData}{ps:List Str}(F:Fun K x qual st f fd)
  (h:∀ (kV doc pm:Value) (an:Option Addr) (cdv ct:Value) (us:List Value),us.length=ps.length->bindArgs (PySem.W.fnOf x qual (eX st) (dC st) (aP st) .none kV doc pm an cdv ct) ⟨us,[]⟩=pure (ps.zip us)):gF K fd ps []:=by
 obtain ⟨oc,od,kV,doc,pm,an,cdv,ct,osl,rfl,lk,hcd⟩:=F.ex
 exact .all (h kV doc pm an cdv ct)
theorem vN{x qual:Str}{st:Stmt}{f:Addr}{oc:Value}{od an:Option Addr}{osl:Array (Option Value)}{kV doc pm cdv ct:Value}(l:K.lookup f=some ⟨oc,od,.func (PySem.W.fnOf x qual (eX st) (dC st) (aP st) .none kV doc pm an cdv ct),osl⟩)
 (c:PySem.W.codeIn K cdv qual=true) (k:PySem.W.keepIn K (.ref f)=true):Fun K x qual st f (PySem.W.fnOf x qual (eX st) (dC st) (aP st) .none kV doc pm an cdv ct):=⟨⟨oc,od,kV,doc,pm,an,cdv,ct,osl,rfl,l,c⟩,k⟩
end
section
variable{X:Cx}
theorem pv(i:Nat){x:Str}{pos:Pos}(hN:X.N[i]? = some x:=by rfl)(hv:Vis X.env.scope x:=by first|exact Or.inl rfl|exact Or.inr (Or.inl rfl)|exact Or.inr (Or.inr rfl))(hd:(x == ("__debug__":Str))=false:=by decide)
 (hcd:(x == ("__classdict__":Str))=false:=by decide):PE X (.Name x pos) (fG i):=aCZ hN hv hd hcd
end
theorem p7{A B:Prop}(h:B):if false=true then A else B:=by
 rw[if_neg Bool.false_ne_true]
 exact h
theorem p8{A B:Prop}(h:A):if true=true then A else B:=by
 rw[if_pos rfl]
 exact h
def aF(H H':Hp):Prop:=∀ b o,H b=some o->H' b=some o
theorem aF.trans{H H1 H2:Hp}(a:aF H H1)(b:aF H1 H2):aF H H2:=fun c o h=>b c o (a c o h)
theorem aF.free{H H':Hp}(e:aF H H'){l:Addr}(h:H' l=Option.none):H l=Option.none:=by
 cases q:H l with
 | none=>rfl
 | some o=>
  rw[e l o q] at h
  cases h
theorem aF.seq{K:Frag}{H H':Hp}{a:Addr}{xs:List V}(e:aF H H')(h:SqL K H a xs):SqL K H' a xs:=by
 rcases h with (h|⟨o,h⟩)|h
 · exact .inl (.inl (e _ _ h))
 · exact .inl (.inr ⟨o, e _ _ h⟩)
 · exact .inr h
end L2
namespace L2
open PySem PySem.Spec PyProof.Rows
theorem t6{env:Env}:∀ (names:List (Str×NameKind)) (acc:List (Str×Addr)),(∀ x∈names,x.2=.free->∃ c,env.cells.lookup x.1=some c)->
  (∀ x c,acc.lookup x=some c->env.cells.lookup x=some c)->
  ∃ cl,(forIn names acc fun x r=>(if (x.2 == NameKind.free)=true then (do let a <-cellOf env x.1;pure (ForInStep.yield ((x.1,a)::r))) else pure (ForInStep.yield r)):Sem (List (Str×Addr)))=pure cl /\
   (∀ x c,cl.lookup x=some c->env.cells.lookup x=some c)/\(∀ x∈names,x.2=.free->∃ c,cl.lookup x.1=some c)/\∀ x c,acc.lookup x=some c->∃ c',cl.lookup x=some c':=by
 intro names
 induction names with
 | nil=>intro acc _ h;exact ⟨acc,rfl,h,fun x hx=>absurd hx (by simp),fun x c e=>⟨c,e⟩⟩
 | cons x r ih=>
  intro acc hf h
  obtain ⟨n,k⟩:=x
  by_cases hk:k=.free
  ·subst hk
   obtain ⟨c,hc⟩:=hf (n,.free) List.mem_cons_self rfl
   have hc:env.cells.lookup n=some c:=hc
   obtain ⟨cl,e1,e2,e3,e4⟩:=ih ((n,c)::acc) (fun y hy=>hf y (List.mem_cons_of_mem _ hy)) (fun y d e=>by
    rw[List.lookup_cons] at e
    cases q:y == n with
    | true=>rw[q] at e;cases e;have:=eq_of_beq q;subst this;exact hc
    | false=>rw[q] at e;exact h y d e)
   refine ⟨cl,?_,e2,fun y hy hyf=>?_,fun y d e=>?_⟩
   ·rw[List.forIn_cons]
    simp only[beq_self_eq_true,if_true]
    unfold cellOf
    simp only[hc,pure_bind]
    exact e1
   ·rcases List.mem_cons.mp hy with z|z
    ·subst z
     exact e4 n c (by rw[List.lookup_cons];simp)
    ·exact e3 y z hyf
   ·by_cases q:y=n
    ·subst q;exact e4 y c (by rw[List.lookup_cons];simp)
    ·exact e4 y d (by rw[List.lookup_cons,beq_false_of_ne q];exact e)
  ·obtain ⟨cl,e1,e2,e3,e4⟩:=ih acc (fun y hy=>hf y (List.mem_cons_of_mem _ hy)) h
   refine ⟨cl,?_,e2,fun y hy hyf=>?_,e4⟩
   ·rw[List.forIn_cons]
    have:(k == NameKind.free)=false:=by simpa using hk
    simp only[this,Bool.false_eq_true,if_false,pure_bind]
    exact e1
   ·rcases List.mem_cons.mp hy with z|z
    ·subst z;exact absurd hyf hk
    ·exact e3 y z hyf
theorem mW{env:Env}{scope:Scope}(hf:∀ x∈scope.names,x.2=.free->∃ c,env.cells.lookup x.1=some c) :
  ∃ cl,closureFor scope env=pure cl/\(∀ x c,cl.lookup x=some c->env.cells.lookup x=some c)/\∀ x∈scope.names,x.2=.free->∃ c,cl.lookup x.1=some c:=by
 obtain ⟨cl,e1,e2,e3,_⟩:=t6 scope.names [] hf (fun x c e=>by simp at e)
 refine ⟨cl,?_,e2,e3⟩
 unfold closureFor
 first
  | exact e1
  | (rw[<-e1];rfl)
  | (simp only[bind_pure];exact e1)
theorem dR{env:Env}:∀ {names:List (Str×NameKind)} {x:Str} {k:NameKind},
  (names.map fun (n,k)=>if (k == NameKind.free && env.scope.kind == .function && env.kindOf n == some .cell) then (n,NameKind.cell) else (n,k)).lookup x=some k->
  k=.cell\/k=.free->(∀ y∈names,y.2≠.cell)->(x,NameKind.free)∈names
 | [],_,_,h,_,_=>by simp at h
 | (n,k0)::r,x,k,h,hk,hc=>by
  have ih:=@dR env r x k
  rw[List.map_cons] at h
  dsimp only at h
  by_cases hx:x=n
  ·subst hx
   by_cases hcond:(k0 == NameKind.free && env.scope.kind == .function && env.kindOf x == some .cell)=true
   ·have:k0=.free:=by
     simp only[Bool.and_eq_true] at hcond
     exact eq_of_beq hcond.1.1
    subst this
    exact List.mem_cons_self
   ·rw[if_neg hcond,List.lookup_cons] at h
    simp only[beq_self_eq_true] at h
    cases h
    rcases hk with rfl|rfl
    ·exact absurd rfl (hc _ List.mem_cons_self)
    ·exact List.mem_cons_self
  ·have hb:(x == n)=false:=beq_false_of_ne hx
   refine List.mem_cons_of_mem _ (ih ?_ hk fun y hy=>hc y (List.mem_cons_of_mem _ hy))
   split at h
   ·rw[List.lookup_cons,hb] at h;exact h
   ·rw[List.lookup_cons,hb] at h;exact h
noncomputable def dS(X:Cx)(N:List Str)(scope:Scope)(cl:List (Str×Addr))(C:Addr)(s:Shared)(H:Hp)(fp:List Addr):Cx where
 prog:=X.prog
 w:=X.w
 K:=X.K
 mg:=X.mg
 base:=X.base
 A:=X.A
 N:=N
 s₀:=s
 H₀:=H
 env:=compEnvC scope cl C X.env
 outer:=X.stack
 stack:=X.stack
 ex:=fp
 calm:=X.calm
 fn:=fun _=>false
 pn:=[]
 xe:=fun _ _=>False
inductive Caps(X:Cx)(scope:Scope):List Str->List (Option Nat)->Prop
 | nil:Caps X scope [] []
 | own {x:Str} {N:List Str} {js:List (Option Nat)} (t:Caps X scope N js):Caps X scope (x::N) (none::js)
 | cap {x:Str} {j:Nat} {N:List Str} {js:List (Option Nat)} (h1:X.N[j]? = some x) (h2:X.env.kindOf x=some .cell\/X.env.kindOf x=some .free)
  (h3:(relabel scope X.env).names.lookup x=some .cell\/(relabel scope X.env).names.lookup x=some .free) (t:Caps X scope N js):Caps X scope (x::N) (some j::js)
theorem Caps.len{X:Cx}{scope:Scope}{N:List Str}{js:List (Option Nat)}(c:Caps X scope N js):js.length=N.length:=by
 induction c with
 | nil=>rfl
 | own _ ih=>simp[ih]
 | cap _ _ _ _ ih=>simp[ih]
theorem Caps.get{X:Cx}{scope:Scope}{N:List Str}{js:List (Option Nat)}(c:Caps X scope N js):∀ {i j:Nat} {x:Str},js[i]? = some (some j)->N[i]? = some x->
  X.N[j]? = some x/\(X.env.kindOf x=some .cell\/X.env.kindOf x=some .free)/\((relabel scope X.env).names.lookup x=some .cell\/(relabel scope X.env).names.lookup x=some .free):=by
 induction c with
 | nil=>intro i j x h;simp at h
 | own _ ih=>
  intro i j x h1 h2
  cases i with
  | zero=>simp at h1
  | succ i=>exact ih (by simpa using h1) (by simpa using h2)
 | cap a b d _ ih=>
  intro i j x h1 h2
  cases i with
  | zero=>
   simp at h1 h2
   subst h1 h2
   exact ⟨a,b,d⟩
  | succ i=>exact ih (by simpa using h1) (by simpa using h2)
noncomputable def f6(js:List (Option Nat))(σ:St):St:=js.map fun o=>o.bind fun j=>(σ[j]?).join
def cU(σ σ':St):Prop:=σ'.length=σ.length/\∀ (i:Nat) v,σ[i]? = some (some v)->σ'[i]? = some (some v)
theorem cU.refl(σ:St):cU σ σ:=⟨rfl,fun _ _ h=>h⟩
theorem cU.set{σ:St}{i:Nat}{v:Option V}(h:σ[i]? = some none):cU σ (σ.set i v):=by
 refine ⟨List.length_set,fun j u e=>?_⟩
 by_cases q:i=j
 · subst q; rw [h] at e; cases e
 · rw [List.getElem?_set_ne q]; exact e
theorem cU.trans{a b c:St}(h:cU a b)(k:cU b c):cU a c:=⟨k.1.trans h.1,fun i v e=>k.2 i v (h.2 i v e)⟩
section
variable{X:Cx}
def PIf(X:Cx)(ifs:List Expr)(t:TT):Prop:=
 ∀ (pins:List (Addr×Obj)) (s:Shared) (σ:St) (H:Hp) (Q:Bool->Hp->Prop),Inv X pins σ H s->t σ H Q->
  wpAny (model X.prog X.w) X.A (forIn ifs true fun c r=>if r=true then do let ok <-isTrue c X.env (eval c X.env);pure (ForInStep.yield ok) else pure (ForInStep.yield r)) (TP X pins σ Q) X.xe s
def aG0:TT:=fun _ H Q=>Q true H
theorem fN:PIf X [] aG0:=by
 intro pins s σ H Q I h
 show wpAny _ _ (pure true) _ _ s
 exact wpAny_pure ⟨H,I,h⟩
end
def nZ(X:Cx)(N:List Str)(scope:Scope)(js:List (Option Nat))(tg elt:Expr)(ifs:List Expr)(σ:St)(x:V)(H:Hp)(R:Option V->Hp->Prop):Prop:=
 ∀ (cl:List (Str×Addr)) (C:Addr) (s:Shared) (H0:Hp) (fp:List Addr),∃ (g:TG) (tt:TT) (te:TE),PG (dS X N scope cl C s H0 fp) tg g/\PIf (dS X N scope cl C s H0 fp) ifs tt/\PE (dS X N scope cl C s H0 fp) elt te /\
  ∀ σ0,cU (f6 js σ) σ0->g x σ0 H fun σ2 H2=>cU (f6 js σ) σ2/\tt σ2 H2 fun b H3=>if b=true then te σ2 H3 fun y H4=>R (some y) H4 else R none H3
def compK(X:Cx)(N:List Str)(scope:Scope)(js:List (Option Nat))(tg elt:Expr)(ifs:List Expr)(σ:St)(Q:VK)(J:It)(H1:Hp):Prop:=∃ (n:Nat) (W:Nat->List V->Hp->Prop),n<=sizeLine/\W 0 [] H1 /\
 ∀ i ys H,W i ys H->ys.length<=i/\((J.stop i H/\∀ p,H p=none->Q (.ref p) (upd H p (.lst ys)))\/(J.go i H/\i < n/\∃ R:Option V->Hp->Prop,(∀ y H2,R (some y) H2->W (i+1) (ys++[y]) H2)/\(∀ H2,R none H2->W (i+1) ys H2) /\
  ∀ x H',J.yld i H x H'->nZ X N scope js tg elt ifs σ x H' R))
def mX(X:Cx)(N:List Str)(scope:Scope)(js:List (Option Nat))(tg elt:Expr)(ifs:List Expr)(wi:TI):TE:=fun σ H Q=>wi σ H (compK X N scope js tg elt ifs σ Q)
end L2
namespace L2
open PySem PySem.Spec PyProof.Rows
section
variable{prog:Program}{w:World}{A:Around}{R:Result->Shared->Prop}{s:Shared}
theorem p9{elt target iter:Expr}{ifs:List Expr}{scope:Scope}{pos:Pos}{it acc:Value}{env:Env}(I:Nat->Shared->Prop)
  (turn:∀ n s,I n s->wpAny (model prog w) A (pyNext it) (fun r s1=>match r with
   | none=>R (.ok .next) s1
   | some v=>wpAny (model prog w) A (letOwnedTupleGo target it v) (fun _ s1'=>wpAny (model prog w) A (assign target env v) (fun _ s2=>
    wpAny (model prog w) A (forIn ifs true fun c r=>if r=true then do let ok <-isTrue c env (eval c env);pure (ForInStep.yield ok) else pure (ForInStep.yield r)) (fun ok s3=>
     if ok=true then wpAny (model prog w) A (eval elt env) (fun x s4=>
      wpAny (model prog w) A (call (.builtin "list.append") [acc,x]) (fun _ s5=>∃ m,m < n/\I m s5) (fun _ _=>False) s4) (fun _ _=>False) s3
     else ∃ m,m < n/\I m s3) (fun _ _=>False) s2) (fun _ _=>False) s1') (fun _ _=>False) s1) (fun _ _=>False) s)
  (n:Nat) (h:I n s) :
  codeAny (model prog w) A (.compLoop (.ListComp elt [⟨target,iter,ifs,0⟩] scope pos) 0 it acc env) R s:=by
 refine codeAny_loop rfl I (fun n s hI=>?_) n h
 show wpAny _ A ((compTurn (.ListComp elt [⟨target,iter,ifs,0⟩] scope pos) 0 it acc env).onRaise (fun x=>do noteFrame x env;theTreesLotGoes x)) _ _ s
 refine wpAny_noted ?_
 rw[compTurn_list]
 have nr:∀ {α:Type} {t:Sem α} {Q:α->Shared->Prop} {E':Value->Shared->Prop} {s:Shared},wpAny (model prog w) A t Q (fun _ _=>False) s->wpAny (model prog w) A t Q E' s:=fun h=>wpAny_mono h (fun _ _ q=>q) fun _ _ f=>f.elim
 refine wpAny_bind (wpAny_standAt (wpAny_bind (wpAny_mono (turn n s hI) (fun r s₁ h₁=>?_) fun _ _ h'=>h'.elim)))
 cases r with
 | none=>exact wpAny_pure h₁
 | some v=>
  refine wpAny_bind (wpAny_mono h₁ (fun _ s1' h1'=>?_) fun _ _ f=>f.elim)
  refine wpAny_bind (wpAny_mono h1' (fun _ s₂ h₂=>wpAny_bind (wpAny_mono h₂ (fun ok s₃ h₃=>?_) fun _ _ h'=>h'.elim)) fun _ _ h'=>h'.elim)
  cases ok with
  | false=>exact wpAny_pure ⟨rfl,h₃⟩
  | true=>
   exact wpAny_bind (wpAny_bind (wpAny_mono h₃ (fun x s₄ h₄=>wpAny_bind (wpAny_mono h₄ (fun _ s₅ h₅=>wpAny_pure (wpAny_pure ⟨rfl,h₅⟩)) fun _ _ h'=>h'.elim)) fun _ _ h'=>h'.elim))
end
theorem HOk.track{P:Program}{w:World}{H:Hp}{h:Heap}{a:Addr}{o:HO}(x:HOk P w H h)(hn:H a=none)(new:bW P w (upd H a o) h a o):HOk P w (upd H a o) h:=fun b u e=>by
 by_cases hb:b=a
 ·subst hb;rw[aS] at e;cases e;exact new
 ·rw[aK hb] at e
  exact (x b u e).stay (fun c v _ q=>q) (fun c q=>by rw[aK (bK q hn)];exact q) (fun c xs q=>by rw[aK (bK q hn)];exact q) fun c xs q=>by rw[aK (bK q hn)];exact q
section
variable{X:Cx}{pins:List (Addr×Obj)}{σ:St}
structure CompEnd(X:Cx)(pins:List (Addr×Obj))(σ:St)(D C:Addr)(ys:List V)(H':Hp)(s':Shared):Prop where
 inv:Inv X pins σ (upd H' D (.lst ys)) s'
 ns:∃ m,s'.heap.Ns C m
 fp:eI X pins (upd H' D (.lst ys)) C
 nD:H' D=none
theorem CompEnd.gone{D C:Addr}{ys:List V}{H H':Hp}{s':Shared}{h'':Heap}{σ':St}(I:Inv X pins σ' H s')(fp:eI X pins H C)(hs:Heap.SameBut C s'.heap h''):Inv X pins σ' H {s' with heap:=h''}:=
 I.turned (it:=C) (t':=s'.toks) (fun b o hb e=>(hs.2 b hb).trans e) fp.1 fp.2.1 fp.2.2.2.1 fp.2.2.2.2.1 fp.2.2.2.2.2
theorem qA{prog:Program}{w:World}{A:Around}{E:Value->Shared->Prop}{s:Shared}{l:Addr}{items:Array Value}{nn:Nat}{x:Value}{Q:Value->Shared->Prop}(e:s.heap.get? l=some {cls:=.type "list",dict:=none,data:=.seq items nn})(hz:items.size<=sizeLine)
  (hQ:∀ nn' h',h'.get? l=some {cls:=.type "list",dict:=none,data:=.seq (items.push x) nn'}->Heap.SameBut l s.heap h'->Q .none {s with heap:=h'}) :
  wpAny (model prog w) A (call (.builtin "list.append") [.ref l,x]) Q E s:=by
 refine call_meets F.slot_list_append ⟨_,e,rfl⟩ F.entry_list_append (F.args_list_append_2 _ _) (PySem.list_append l items nn x (by omega)) ⟨e,?_⟩
 exact hQ _ _ (Heap.get?_update_self _ e rfl) (Heap.SameBut.update ..)
theorem mY{N:List Str}{js:List (Option Nat)}{scope:Scope}{tg elt iter:Expr}{ifs:List Expr}{cl:List (Str×Addr)}{pos:Pos}{it:Addr}{fp:List Addr}{tn:Nat->Heap->Prop}{J:It}{s2:Shared}{H2:Hp}{E:Value->Shared->Prop}
  {RR:Value->Addr->Result->Shared->Prop} {Q:VK} (hc:X.calm=true) (caps:Caps X scope N js) (hkind:scope.kind=.function) (hcell:∀ y∈scope.names,y.2≠.cell)
  (hcl1:∀ x c,cl.lookup x=some c->X.env.cells.lookup x=some c) (hcl2:∀ x∈scope.names,x.2=.free->∃ c,cl.lookup x.1=some c)
  (I:Inv X pins σ H2 s2) (T:Turn X.prog X.w X.K tg J fp it tn) (st2:tn 0 s2.heap) (f2:∀ b∈fp,eI X pins H2 b) (n:Nat) (W:Nat->List V->Hp->Prop) (hn:n<=sizeLine) (w0:W 0 [] H2)
  (turn:∀ i ys H,W i ys H->ys.length<=i/\((J.stop i H/\∀ p,H p=none->Q (.ref p) (upd H p (.lst ys)))\/(J.go i H/\i < n/\∃ R:Option V->Hp->Prop,(∀ y H2,R (some y) H2->W (i+1) (ys++[y]) H2)/\(∀ H2,R none H2->W (i+1) ys H2) /\
   ∀ x H',J.yld i H x H'->nZ X N scope js tg elt ifs σ x H' R)))
  (hRR:∀ D C ys H' s',CompEnd X pins σ D C ys H' s'->Q (.ref D) (upd H' D (.lst ys))->RR (.ref D) C (.ok .next) s') :
  wpAny (model X.prog X.w) X.A (newList []) (fun acc s3=>wpAny (model X.prog X.w) X.A (newFunctionEnv scope X.env.globals cl [] X.env.qual none .none (some X.env)) (fun cenv s4=>
   codeAny (model X.prog X.w) X.A (.compStart (.ListComp elt [⟨tg,iter,ifs,0⟩] scope pos) 0 (.ref it) acc {cenv with scope:=relabel scope X.env}) (RR acc cenv.locals) s4) E s3) E s2:=by
 refine wpAny_newObj_type (wpAny_newFunctionEnv hcell (by intro y hy;simp at hy) (fun h₁ hns₁ hsb₁=>?_) hkind)
 dsimp only at hns₁ hsb₁ ⊢
 generalize hHh:s2.heap.push {cls:=.type "list",dict:=none,data:=.seq ([]:List Value).toArray}=Hh at hns₁ hsb₁ ⊢
 have hC:Hh.objs.size=s2.heap.objs.size+1:=by rw[<-hHh,Heap.size_push]
 have hDC:s2.heap.objs.size≠Hh.objs.size:=by rw[hC];exact Nat.ne_of_lt (Nat.lt_succ_self _)
 have hCle:s2.heap.objs.size<=Hh.objs.size:=by rw[hC];exact Nat.le_succ _
 have old:∀ b o,s2.heap.get? b=some o->h₁.get? b=some o:=fun b o e=>hsb₁.extBut b o (by rw[hC];exact Nat.ne_of_lt (Nat.lt_succ_of_lt (Heap.lt_size e))) (Heap.get?_push_of_some _ (hHh▸Heap.get?_push_of_some _ e))
 have haccO:h₁.get? s2.heap.objs.size=some {cls:=.type "list",dict:=none,data:=.seq ([]:List Value).toArray}:=hsb₁.extBut _ _ hDC (Heap.get?_push_of_some _ (hHh▸Heap.get?_push_size _ rfl))
 have st1:tn 0 h₁:=T.keep _ _ _ st2 fun b hb o e=>old b o e
 have fplt:∀ b∈fp,b < s2.heap.objs.size:=fun b hb=>by
  obtain ⟨o,e,_⟩:=T.obj _ _ st2 b hb
  exact Heap.lt_size e
 have fsIn:∀ b∈frs X.stack,b < s2.heap.objs.size:=fun b hb=>by
  rcases List.mem_cons.mp (I.stkSub b hb) with z|z
  ·rw[z];exact I.lt
  ·refine Nat.lt_of_not_le fun hle=>I.nofs hle z
 have fpC:∀ b∈fp,b≠Hh.objs.size:=fun b hb z=>Nat.lt_irrefl _ (Nat.lt_of_lt_of_le (fplt b hb) (z▸hCle))
 generalize hD:s2.heap.objs.size=D at *
 generalize hCc:Hh.objs.size=C at *
 let X':=dS X N scope cl C s2 H2 fp
 have ok':X'.Ok:=by
  refine ⟨I.ok.mod,hkind,I.ok.glob,I.ok.blt,by show s2.heap.objs.size<=C;rw[hD];exact hCle,fun x y c e1 e2=>I.ok.inj x y c (hcl1 x c e1) (hcl1 y c e2),fun x hx=>?_,fun x c z=>absurd (show false=true from z) Bool.false_ne_true,I.ok.hd,I.ok.frames,.inl rfl,fun b hb=>?_,
   I.bs,Nat.le_trans I.ok.bsz I.sz,fun b o e hb=>?_,fun b hb z=>?_,I.stack,I.stkFree⟩
  ·have hm:(x,NameKind.free)∈scope.names:=by
    rcases hx with z|z
    ·exact dR (env:=X.env) z (.inl rfl) hcell
    ·exact dR (env:=X.env) z (.inr rfl) hcell
   exact hcl2 _ hm rfl
  ·exact ⟨fpC b hb,fun x c e=>(f2 b hb).2.2.2.2.1 x c (hcl1 x c e)⟩
  ·rcases (f2 b hb).2.2.2.1 with z|z
   ·exact I.ok.noex b o e z
   ·exact absurd (Heap.lt_size (I.ok.bs b o e).1) (Nat.not_lt.mpr z)
  ·rcases List.mem_cons.mp (I.stkSub b z) with q|q
   ·exact (f2 b hb).2.1 q
   ·exact (f2 b hb).2.2.1 q
 have hσl:(f6 js σ).length=N.length:=by unfold f6;rw[List.length_map,caps.len]
 have freeC:H2 C=none:=I.hok.fresh (by rw[hD];exact hCle)
 have freeD:H2 D=none:=I.hok.fresh (by rw[hD];exact Nat.le_refl _)
 have DnotFs:D∉frs X.stack:=fun z=>Nat.lt_irrefl _ (fsIn D z)
 have DnotFp:D∉fp:=fun z=>Nat.lt_irrefl _ (fplt D z)
 have I0:∀ tk,Inv X' [] (f6 js σ) H2 {s2 with heap:=h₁,toks:=tk}:=fun tk=>by
  refine ⟨ok',rfl,I.bare,Un.kept old,⟨_,hns₁,fun i x v e1 e2 e3=>?_⟩,fun x c e=>?_,freeC,fun x c e=>I.freeC x c (hcl1 x c e),fun p hp=>absurd hp (by show ¬ p∈([]++[]:List (Addr×Obj));simp),I.hok.kept old,hσl⟩
  ·unfold f6 at e2
   rw[List.getElem?_map] at e2
   cases q:js[i]? with
   | none=>rw[q] at e2;cases e2
   | some o=>
    rw[q] at e2
    cases o with
    | none=>cases e2
    | some j=>
     have e2':(σ[j]?).join=some v:=Option.some.inj e2
     obtain ⟨c1,c2,c3⟩:=caps.get q e1
     have e4:σ[j]? = some (some v):=by
      cases z:σ[j]? with
      | none=>rw[z] at e2';cases e2'
      | some u=>rw[z] at e2';have:u=some v:=e2';rw[this]
     obtain ⟨m,hm,hl⟩:=I.loc
     have vis:Vis X.env.scope x:=by
      rcases c2 with z|z
      · exact .inr (.inl z)
      · exact .inr (.inr z)
     obtain ⟨u,r,l⟩:=hl j x v c1 e4 vis
     refine ⟨u,r,.inr ⟨c3,?_⟩⟩
     have lc:∃ c,X.env.cells.lookup x=some c/\s2.heap.IsCell c (some u):=by
      rcases l with ⟨k,_⟩|⟨_,z⟩
      · rcases c2 with z | z <;> (rw [k] at z; cases z)
      · exact z
     obtain ⟨c,e5,o,ho,hd⟩:=lc
     have hm2:(x,NameKind.free)∈scope.names:=by
      rcases c3 with z|z
      · exact dR (env := X.env) z (.inl rfl) hcell
      · exact dR (env := X.env) z (.inr rfl) hcell
     obtain ⟨c',e6⟩:=hcl2 _ hm2 rfl
     have e7:=hcl1 _ _ e6
     rw[e5] at e7;cases e7
     exact ⟨c,e6,o,old c o ho,hd⟩
  ·obtain ⟨v,o,ho,hd⟩:=I.cell x c (hcl1 x c e)
   exact ⟨v,o,old c o ho,hd⟩
 have fpok:∀ {H':Hp} {pl:List (Addr×Obj)},(∀ b∈fp,H' b=none)->(∀ b∈fp,∀ p∈pl,p.1≠b)->∀ b∈fp,eI X' pl H' b:=fun {H' pl} hn hpl b hb=>by
  refine ⟨hn b hb,fpC b hb,ok'.exfs b hb,.inl hb,fun x c e=>(f2 b hb).2.2.2.2.1 x c (hcl1 x c e),fun p hp=>hpl b hb p ?_⟩
  have hp':p∈[]++pl:=hp
  simpa using hp'
 let LI:Nat->Shared->Prop:=fun k s'=>∃ i ys its nn σ' H',k=n+1 - i/\i<=n/\W i ys H'/\tn i s'.heap/\(∀ b∈fp,H' b=none)/\aV ys its/\cU (f6 js σ) σ' /\
  Inv X' [(D,{cls:=.type "list",dict:=none,data:=.seq its.toArray nn})] σ' H' s'
 have loop:∀ tk,codeAny (model X.prog X.w) X.A (.compLoop (.ListComp elt [⟨tg,iter,ifs,0⟩] scope pos) 0 (.ref it) (.ref D) (compEnvC scope cl C X.env)) (RR (.ref D) C) {s2 with heap:=h₁,toks:=tk}:=by
  intro tk
  refine p9 LI ?_ (n+1) ⟨0,[],[],0,f6 js σ,H2,rfl,Nat.zero_le _,w0,st1,fun b hb=>(f2 b hb).1,.nil,cU.refl _,?_⟩
  ·rintro k s3 ⟨i,ys,its,nn,σ3,H3,rfl,hin,w3,st3,fr3,r3,ks,I3⟩
   obtain ⟨hyl,tr⟩:=turn i ys H3 w3
   have fpk:=fpok (pl:=[(D,{cls:=.type "list",dict:=none,data:=.seq its.toArray nn})]) fr3 (fun b hb p hp z=>by
    rw[List.mem_singleton.mp hp] at z
    exact DnotFp ((show D=b from z)▸hb))
   rcases tr with ⟨stop,q⟩|⟨go,hlt,RW,hR1,hR2,step⟩
   ·refine thn (T.done X' rfl rfl rfl hc i _ s3 σ3 H3 _ I3 fpk st3 stop) fun r s4 zz0=>?_
    obtain ⟨hr,I4⟩:=zz0
    subst hr
    show RR (.ref D) C (.ok .next) s4
    obtain ⟨pe,pn,p1,p2,p3⟩:=I4.pin (D,{cls:=.type "list",dict:=none,data:=.seq its.toArray nn}) (by show _∈[]++_;simp)
    refine hRR D C ys H3 s4 ?_ (q D pn)
    have hok4:HOk X.prog X.w (upd H3 D (.lst ys)) s4.heap:=HOk.track I4.hok pn ⟨Nat.le_trans hyl (Nat.le_trans hin hn),its,nn,r3,pe⟩
    have ltD:∀ b u,H2 b=some u->b≠D:=fun b u e z=>by rw[z,freeD] at e;cases e
    have un4:Un (frs X.stack) fp H2 (upd H3 D (.lst ys)) s2.heap s4.heap:=by
     have ub:=I4.base
     refine ⟨ub.keep,ub.slot,fun b o e nn' hx=>?_,ub.there,fun b xs e=>?_,fun b o u e=>?_,fun b ps e=>?_⟩
     ·rw[aK (fun z=>by have:=Heap.lt_size e;rw[hD,z] at this;exact Nat.lt_irrefl _ this)]
      exact ub.free b o e nn' hx
     ·rw[aK (ltD b _ e)];exact ub.tups b xs e
     ·rw[aK (ltD b _ e)];exact ub.frzs b o u e
     ·rw[aK (ltD b _ e)];exact ub.tbls b ps e
    refine ⟨I.call' I4.os un4 hok4 I4.bare fun b hb=>⟨(f2 b hb).2.2.2.1,(f2 b hb).2.1,(f2 b hb).2.2.2.2.1,(f2 b hb).2.2.2.2.2⟩,?_,?_,pn⟩
    ·obtain ⟨m,hm,_⟩:=I4.loc
     exact ⟨m,hm⟩
    ·refine I.fpOk (by rw[hD];exact hCle) ?_
     rw[aK (Ne.symm hDC)]
     exact I4.free
   ·refine thn (T.item X' rfl rfl rfl hc i _ s3 σ3 H3 _ I3 fpk st3 go) fun r s4 zz0=>?_
    obtain ⟨u,hr,h4⟩:=zz0
    subst hr
    show wpAny _ _ (letOwnedTupleGo tg (.ref it) u) _ _ s4
    refine thn h4 fun _ s5 zz0=>?_
    obtain ⟨x,H5,I5,r5,y5,st5,fr5⟩:=zz0
    obtain ⟨g,tt,te,hg,ht,he,hq⟩:=step x H5 y5 cl C s2 H2 fp
    have fpk5:=fpok (pl:=[(D,{cls:=.type "list",dict:=none,data:=.seq its.toArray nn})]) fr5 (fun b hb p hp z=>by
     rw[List.mem_singleton.mp hp] at z
     exact DnotFp ((show D=b from z)▸hb))
    have I5':=I5.pinned fpk5 (T.obj _ _ st5)
    refine thn (hg _ s5 σ3 H5 x u _ I5' r5 (hq σ3 ks)) fun _ s6 zz0=>?_
    obtain ⟨σ6,H6,I6,ks6,q6⟩:=zz0
    refine thn (ht _ s6 σ6 H6 _ I6 q6) fun b s7 zz0=>?_
    obtain ⟨H7,I7,q7⟩:=zz0
    have stK:∀ {s':Shared} {H':Hp} {σ':St},Inv X' ([(D,{cls:=.type "list",dict:=none,data:=.seq its.toArray nn})]++kK fp s5.heap) σ' H' s'->tn (i+1) s'.heap/\(∀ b∈fp,H' b=none):=fun {s' H' σ'} I'=>by
     refine ⟨T.keep _ _ _ st5 fun b hb o e=>(I'.pin (b,o) (List.mem_append_right _ (List.mem_append_right _ (fS hb e)))).1,fun b hb=>?_⟩
     obtain ⟨o,e,d⟩:=T.obj _ _ st5 b hb
     exact (I'.pin (b,o) (List.mem_append_right _ (List.mem_append_right _ (fS hb e)))).2.1
    cases b with
    | false=>
     rw[if_neg Bool.false_ne_true] at q7 ⊢
     obtain ⟨a1,a2⟩:=stK I7
     exact ⟨n+1 - (i+1),by omega,i+1,ys,its,nn,σ6,H7,rfl,hlt,hR2 _ q7,a1,a2,r3,ks6,I7.unpinned⟩
    | true=>
     rw[if_pos rfl] at q7 ⊢
     refine thn (he _ s7 σ6 H7 _ I7 q7) fun yv s8 zz0=>?_
     obtain ⟨y,H8,I8,r8,q8⟩:=zz0
     obtain ⟨a1,a2⟩:=stK I8
     have I8u:=I8.unpinned
     obtain ⟨pe,pn,p1,p2,p3⟩:=I8u.pin (D,{cls:=.type "list",dict:=none,data:=.seq its.toArray nn}) (by show _∈[]++_;simp)
     have hl8:s8.heap.IsList D its.toArray:=PySem.IsL.isList pe
     have isz:its.length<=sizeLine:=by rw[<-r3.length];exact Nat.le_trans hyl (Nat.le_trans hin hn)
     refine qA pe (by simpa using isz) fun nn' h9 e9 hs9=>?_
     have I9:Inv X' [] σ6 H8 {s8 with heap:=h9,toks:=s8.toks}:=by
      refine Inv.turned (pins:=[]) (it:=D) (t':=s8.toks) (I8u.pins_of (pins':=[]) fun p hp=>absurd hp (by simp)) (fun b o hb e=>(hs9.2 b hb).trans e) pn hDC (.inr (by show s2.heap.objs.size<=D;rw[hD];exact Nat.le_refl _)) (fun x c e z=>?_) fun p hp=>absurd hp (by show ¬ p∈([]++[]:List (Addr×Obj));simp)
      obtain ⟨v,o,ho,hd⟩:=I.cell x c (hcl1 x c e)
      have:=Heap.lt_size ho
      rw[hD,z] at this
      exact Nat.lt_irrefl _ this
     refine ⟨n+1 - (i+1),by omega,i+1,ys++[y],its++[yv],nn',σ6,H8,rfl,hlt,hR1 _ _ q8,?_,a2,aV.append r3 (.cons r8 .nil),ks6,?_⟩
     ·exact T.keep _ _ _ a1 fun b hb o e=>(hs9.2 b (fun z=>DnotFp (z▸hb))).trans e
     ·refine I9.pins_of fun p hp=>?_
      obtain rfl:=List.mem_singleton.mp hp
      exact ⟨by simpa using e9,pn,p1,p2,by simp⟩
  ·refine (I0 tk).pins_of fun p hp=>?_
   obtain rfl:=List.mem_singleton.mp hp
   exact ⟨haccO,freeD,hDC,DnotFs,by simp⟩
 exact codeAny_compStart_list (loop _) (T.self X.A 0 _ _ _ st1 (loop _))
noncomputable def dD(names:List (Str×NameKind))(outer:Str->Option NameKind):Bool:=
 names.all (fun y=>y.2 != .cell) && names.all (fun y=>y.2 != .local || names.lookup y.1 == some .local) && names.all (fun y=>y.2 != .free || outer y.1 == some .cell || outer y.1 == some .free)
theorem dD.cell{names:List (Str×NameKind)}{outer:Str->Option NameKind}(h:dD names outer=true):∀ y∈names,y.2≠.cell:=fun y hy=>by
 unfold dD at h
 simp only[Bool.and_eq_true,List.all_eq_true] at h
 simpa using h.1.1 y hy
theorem dD.names{names:List (Str×NameKind)}{outer:Str->Option NameKind}(h:dD names outer=true):∀ y∈names,y.2=.local->names.lookup y.1=some .local:=fun y hy e=>by
 unfold dD at h
 simp only[Bool.and_eq_true,List.all_eq_true] at h
 have:=h.1.2 y hy
 rw[e] at this
 simpa using this
theorem dD.free{names:List (Str×NameKind)}{outer:Str->Option NameKind}(h:dD names outer=true):∀ y∈names,y.2=.free->outer y.1=some .cell\/outer y.1=some .free:=fun y hy e=>by
 unfold dD at h
 simp only[Bool.and_eq_true,List.all_eq_true] at h
 have:=h.2 y hy
 rw[e] at this
 simpa using this
theorem i8{N:List Str}{js:List (Option Nat)}{scope:Scope}{tg elt iter:Expr}{ifs:List Expr}{pos:Pos}{wi:TI}(hc:X.calm=true)(caps:Caps X scope N js)(hok:dD scope.names X.env.kindOf=true)
  (hi:PI X tg iter wi) (hkind:scope.kind=.function:=by rfl) (hs:∀ x,foldedSetIterable iter X.env x=pure x:=by intro _;rfl) :
  PE X (.ListComp elt [⟨tg,iter,ifs,0⟩] scope pos) (mX X N scope js tg elt ifs wi):=by
 intro pins s σ H Q I h
 obtain ⟨cl,e1,e2,e3⟩:=mW (env:=X.env) (scope:=scope) fun x hx hf=>I.ok.has _ (dD.free hok x hx hf)
 rw[eval_ListComp]
 refine wpAny_comprehension_free (use:=none) rfl hs e1 hkind (dD.names hok) (thn (hi pins s σ H _ I h) fun v s1 h1=>thn h1 fun itv s2 h2=>?_)
 obtain ⟨it,fp,tn,J,H2,rfl,I2,T,st2,f2,n,W,hn,w0,turn⟩:=h2
 refine mY (RR:=fun acc C=>compPost (model X.prog X.w) X.A X.xe none (EP X pins σ Q) acc C) (Q:=Q) hc caps hkind (dD.cell hok) e2 e3 I2 T st2 f2 n W hn w0 turn ?_
 intro D C ys H' s' ce q
 obtain ⟨m,hm⟩:=ce.ns
 exact ⟨m,hm,fun h' hs'=>⟨.ref D,_,CompEnd.gone (D:=D) (ys:=ys) (H':=H') ce.inv ce.fp hs',rfl,q⟩⟩
theorem t7{i:Nat}{x:Str}{N:List Str}{js:List (Option Nat)}{scope:Scope}{tg elt iter:Expr}{ifs:List Expr}{pos pos' spos:Pos}{wi:TI}(hN:X.N.Nodup)(hi':X.N[i]? = some x)(hx:Loc X.env.scope x)
  (hsw:swapsWith (.ListComp elt [⟨tg,iter,ifs,0⟩] scope pos) (some (.Name x pos')) spos.line X.env=pure true) (hc:X.calm=true) (caps:Caps X scope N js) (hok:dD scope.names X.env.kindOf=true)
  (hi:PI X tg iter wi) (hkind:scope.kind=.function:=by rfl) (hf:X.fn x=true\/X.env.scope.names.lookup x=some .local:=by exact .inl rfl) (hs:∀ x,foldedSetIterable iter X.env x=pure x:=by intro _;rfl) :
  PS X (.Assign [.Name x pos'] (.ListComp elt [⟨tg,iter,ifs,0⟩] scope pos) spos) (gY (mX X N scope js tg elt ifs wi) (gE i)):=by
 intro pins s σ H D I h
 obtain ⟨cl,e1,e2,e3⟩:=mW (env:=X.env) (scope:=scope) fun x hx hf=>I.ok.has _ (dD.free hok x hx hf)
 rw[exec_Assign_Name_used _ _ _ _ hsw]
 refine wpAny_bind (wpAny_standAt (wpAny_bind ?_))
 show wpAny _ X.A (do let _ <-comprehension (.ListComp elt [⟨tg,iter,ifs,0⟩] scope pos) scope X.env _ (newList []) false (eval iter X.env) (some (assign (.Name x pos') X.env))) _ _ s
 refine wpAny_bind (wpAny_mono (wpAny_comprehension_free (use:=some (assign (.Name x pos') X.env)) (Q:=fun _ s'=>SP X pins D .next s') rfl hs e1 hkind (dD.names hok)
  (thn (hi pins s σ H _ I h) fun v s1 h1=>thn h1 fun itv s2 h2=>?_)) (fun _ s' hq=>wpAny_pure (wpAny_pure hq)) fun _ _ e=>e)
 obtain ⟨it,fp,tn,J,H2,rfl,I2,T,st2,f2,n,W,hn,w0,turn⟩:=h2
 refine mY (RR:=fun acc C=>compPost (model X.prog X.w) X.A X.xe (some (assign (.Name x pos') X.env)) (fun _ s'=>SP X pins D .next s') acc C) (Q:=fun v H'=>D.nx (σ.set i (some v)) H') hc caps hkind (dD.cell hok) e2 e3 I2 T st2 f2 n W hn w0 turn ?_
 intro L C ys H' s' ce q
 show wpAny _ X.A (assign (.Name x pos') X.env (.ref L)) _ _ s'
 refine wpAny_assign_Name (oU (v:=.ref L) ce.inv hN hi' hx rfl (fun s'' I'' sb=>?_) hf)
 obtain ⟨a,hsa,ha⟩:=sb
 have hCa:C≠a:=by
  rcases ha with z|z
  · rw [z]; exact ce.fp.2.1
  · exact fun z' => ce.fp.2.2.2.2.1 x a z z'.symm
 obtain ⟨m,hm⟩:=ce.ns
 exact ⟨m,hm.sameBut hsa hCa,fun h' hs'=>⟨_,_,CompEnd.gone (D:=L) (ys:=ys) (H':=H') I'' ce.fp hs',q⟩⟩
end
noncomputable def aAG(W:Nat->List V->Hp->Prop)(i:Nat)(ys:List V):Option V->Hp->Prop
 | some y,H=>W (i+1) (ys++[y]) H
 | none,H=>W (i+1) ys H
theorem aBD{X:Cx}{J:It}{N:List Str}{scope:Scope}{js:List (Option Nat)}{tg elt:Expr}{ifs:List Expr}{σ:St}{Q:VK}{n:Nat}{H1:Hp}(W:Nat->List V->Hp->Prop)(hz:n<=sizeLine)(w0:W 0 [] H1)
  (hl:∀ i ys H,i<=n->W i ys H->ys.length<=i) (hgo:∀ i ys H,i < n->W i ys H->J.go i H) (hst:∀ ys H,W n ys H->J.stop n H)
  (step:∀ i x ys H H',i < n->W i ys H->J.yld i H x H'->nZ X N scope js tg elt ifs σ x H' (aAG W i ys))
  (done:∀ ys H,W n ys H->∀ p,H p=none->Q (.ref p) (upd H p (.lst ys))) :
  compK X N scope js tg elt ifs σ Q J H1:=by
 refine ⟨n,fun i ys H=>i<=n/\W i ys H,hz,⟨Nat.zero_le _,w0⟩,?_⟩
 rintro i ys H ⟨hi,w⟩
 refine ⟨hl i ys H hi w,?_⟩
 by_cases hlt:i < n
 ·exact .inr ⟨hgo i ys H hlt w,hlt,aAG W i ys,fun y H2 q=>⟨hlt,q⟩,fun H2 q=>⟨hlt,q⟩,fun x H' y=>step i x ys H H' hlt w y⟩
 ·have e:i=n:=by omega
  subst e
  exact .inl ⟨hst ys H w,done ys H w⟩
end L2
namespace L2
open PySem PySem.Spec PyProof.Rows
mutual
inductive DatV(K:Frag)(H:Hp):V->PyData->Prop
 | non:DatV K H .non .none
 | bl (b:Bool):DatV K H (.bl b) (.bool b)
 | int (i:Int):DatV K H (.int i) (.int i)
 | str (x:Str):DatV K H (.str x) (.str x)
 | lst {a:Addr} {xs:List V} {ds:List PyData}:SqL K H a xs->DatVs K H xs ds->DatV K H (.ref a) (.list ds)
 | tup {a:Addr} {xs:List V} {ds:List PyData}:SqT K H a xs->DatVs K H xs ds->DatV K H (.ref a) (.tuple ds)
inductive DatVs(K:Frag)(H:Hp):List V->List PyData->Prop
 | nil:DatVs K H [] []
 | cons {x:V} {d:PyData} {xs:List V} {ds:List PyData}:DatV K H x d->DatVs K H xs ds->DatVs K H (x::xs) (d::ds)
end
section
variable{X:Cx}{pins:List (Addr×Obj)}{σ:St}{H:Hp}{s:Shared}
theorem DatV.reads(I:Inv X pins σ H s){x:V}{d:PyData}{u:Value}(h:DatV X.K H x d)(r:aR x u):∃ as,Reads s.heap u d as:=by
 refine DatV.rec (motive_1:=fun x d _=>∀ u,aR x u->∃ as,Reads s.heap u d as) (motive_2:=fun xs ds _=>∀ us,aV xs us->∃ as,ReadsAll s.heap us ds as) ?_ ?_ ?_ ?_ ?_ ?_ ?_ ?_ h u r
 ·intro u r;cases r;exact ⟨_,.none⟩
 ·intro b u r;cases r;exact ⟨_,.bool b⟩
 ·intro i u r;obtain ⟨t,rfl⟩:=r;exact ⟨_,.int i t⟩
 ·intro x u r;obtain ⟨t,rfl⟩:=r;exact ⟨_,.str x t⟩
 ·intro a xs ds h _ ih u r
  cases r
  obtain ⟨its,rv,p,hz⟩:=I.list h
  obtain ⟨o,e,c,n,d⟩:=p.isList
  obtain ⟨as,q⟩:=ih _ rv
  exact ⟨_,.list e c d (by simpa using q)⟩
 ·intro a xs ds h _ ih u r
  cases r
  obtain ⟨its,rv,p,hz⟩:=I.tuple h
  obtain ⟨o,e,c,n,d⟩:=p
  obtain ⟨as,q⟩:=ih _ rv
  exact ⟨_,.tuple e c d (by simpa using q)⟩
 ·intro us r;cases r;exact ⟨_,.nil⟩
 ·intro x d xs ds _ _ i1 i2 us r
  cases r with
  | cons r1 r2=>
   obtain ⟨as,q⟩:=i1 _ r1
   obtain ⟨bs,q2⟩:=i2 _ r2
   exact ⟨_,.cons q q2⟩
theorem aDO(hu:X.A.units+64 < cLine):OpR X (compareOp .Eq) (fun x y H Q=>∃ d e,DatV X.K H x d/\DatV X.K H y e/\SeqAt.shaped d=true/\SeqAt.shaped e=true/\Q (.bl (PyData.eqv d e)) H):=by
 intro pins s σ H x y u v Q I rx ry h
 obtain ⟨d,e,hx,hy,sd,se,q⟩:=h
 obtain ⟨as,r1⟩:=hx.reads I rx
 obtain ⟨bs,r2⟩:=hy.reads I ry
 exact eq_dataH r1 r2 sd se hu ⟨.bl _,H,I,rfl,q⟩
theorem aDP(hu:X.A.units+64 < cLine):OpR X (compareOp .NotEq) (fun x y H Q=>∃ d e,DatV X.K H x d/\DatV X.K H y e/\SeqAt.shaped d=true/\SeqAt.shaped e=true/\Q (.bl (!PyData.eqv d e)) H):=by
 intro pins s σ H x y u v Q I rx ry h
 obtain ⟨d,e,hx,hy,sd,se,q⟩:=h
 obtain ⟨as,r1⟩:=hx.reads I rx
 obtain ⟨bs,r2⟩:=hy.reads I ry
 exact ne_dataH r1 r2 sd se hu ⟨.bl _,H,I,rfl,q⟩
end
theorem SqL.same{K:Frag}{H H':Hp}{a:Addr}{xs:List V}(e:aF H H')(h:SqL K H a xs):SqL K H' a xs:=aF.seq e h
theorem SqT.same{K:Frag}{H H':Hp}{a:Addr}{xs:List V}(e:aF H H')(h:SqT K H a xs):SqT K H' a xs:=by
 rcases h with (h|⟨o,h⟩)|h
 · exact .inl (.inl (e _ _ h))
 · exact .inl (.inr ⟨o, e _ _ h⟩)
 · exact .inr h
theorem DatV.same{K:Frag}{H H':Hp}(e:aF H H'){x:V}{d:PyData}(h:DatV K H x d):DatV K H' x d:=
 DatV.rec (motive_1:=fun x d _=>DatV K H' x d) (motive_2:=fun xs ds _=>DatVs K H' xs ds) .non .bl .int .str (fun h _ q=>.lst (h.same e) q) (fun h _ q=>.tup (h.same e) q) .nil (fun _ _ p q=>.cons p q) h
theorem DatVs.same{K:Frag}{H H':Hp}(e:aF H H'){xs:List V}{ds:List PyData}(h:DatVs K H xs ds):DatVs K H' xs ds:=
 DatVs.rec (motive_1:=fun x d _=>DatV K H' x d) (motive_2:=fun xs ds _=>DatVs K H' xs ds) .non .bl .int .str (fun h _ q=>.lst (h.same e) q) (fun h _ q=>.tup (h.same e) q) .nil (fun _ _ p q=>.cons p q) h
theorem aF.upd{H:Hp}{a:Addr}{o:HO}(h:H a=none):aF H (upd H a o):=fun b u e=>by rw[aK (bK e h)];exact e
theorem DatVs.length{K:Frag}{H:Hp}:∀ {xs:List V} {ds:List PyData},DatVs K H xs ds->xs.length=ds.length
 | _,_,.nil=>rfl
 | _,_,.cons _ t=>by simp[DatVs.length t]
theorem DatVs.append{K:Frag}{H:Hp}:∀ {xs ys:List V} {ds es:List PyData},DatVs K H xs ds->DatVs K H ys es->DatVs K H (xs++ys) (ds++es)
 | _,_,_,_,.nil,h=>h
 | _,_,_,_,.cons a t,h=>.cons a (DatVs.append t h)
theorem DatVs.get{K:Frag}{H:Hp}:∀ {xs:List V} {ds:List PyData} {i:Nat} {x:V},DatVs K H xs ds->xs[i]? = some x->∃ d,ds[i]? = some d/\DatV K H x d
 | _,_,_,_,.nil,e=>by simp at e
 | _,_,0,_,.cons a t,e=>by simp at e;subst e;exact ⟨_,by simp,a⟩
 | _,_,i+1,x,.cons a t,e=>by
  obtain ⟨d,h1,h2⟩:=DatVs.get (i:=i) (x:=x) t (by simpa using e)
  exact ⟨d,by simpa using h1,h2⟩
theorem DatVs.get'{K:Frag}{H:Hp}:∀ {xs:List V} {ds:List PyData} {i:Nat} {d:PyData},DatVs K H xs ds->ds[i]? = some d->∃ x,xs[i]? = some x/\DatV K H x d
 | _,_,_,_,.nil,e=>by simp at e
 | _,_,0,_,.cons a t,e=>by simp at e;subst e;exact ⟨_,by simp,a⟩
 | _,_,i+1,x,.cons a t,e=>by
  obtain ⟨d,h1,h2⟩:=DatVs.get' (i:=i) (d:=x) t (by simpa using e)
  exact ⟨d,by simpa using h1,h2⟩
theorem DatVs.drop{K:Frag}{H:Hp}:∀ {xs:List V} {ds:List PyData} (n:Nat),DatVs K H xs ds->DatVs K H (xs.drop n) (ds.drop n)
 | _,_,0,h=>h
 | _,_,_+1,.nil=>.nil
 | _,_,n+1,.cons _ t=>DatVs.drop n t
theorem DatVs.take{K:Frag}{H:Hp}:∀ {xs:List V} {ds:List PyData} (n:Nat),DatVs K H xs ds->DatVs K H (xs.take n) (ds.take n)
 | _,_,0,_=>.nil
 | _,_,_+1,.nil=>.nil
 | _,_,n+1,.cons a t=>.cons a (DatVs.take n t)
end L2
namespace SX
open PySem PySem.W
section
variable{prog:Program}{w:World}{A:Around}{E:Value->Shared->Prop}{h:Heap}{g:Array GenState}{d:Drawn}{t:Nat}{os:OsState}{K:Frag}
variable{nm q:Str}{C N:Addr}{bs bm bmB:List Value}{hdct:Bool}{sn:List Str}{sub:List Value}{ab:Bool}{col:Option Bool}{dd:Option Addr}{k0 k1 k2 k3 k5:Option Value}{B newId initId:String}
structure BmOk(B:String)(bm:List Value):Prop where
 hasB:bm.contains (.type B)=true
 hasBase:bm.contains (.type "BaseException")=true
 noAttr:bm.contains (.type "AttributeError")=false
 noName:bm.contains (.type "NameError")=false
end
end SX
namespace SX
open PySem PySem.W PySem.Builtin PySem.Builtin.ObjectAttr
abbrev mC:List Value:=[.type "ValueError",.type "Exception",.type "BaseException",.type "object"]
structure ExcC(K:Frag)(W C:Addr):Prop where
 lk:∃ nm q N bs sn sub ab col dd k0 k1 k2 k3 k5,K.lookup C=some (excClassObj nm q C N bs (.ref W::mC) true sn sub ab col dd k0 k1 k2 k3 k5 "ValueError.__new__")
 sa:findIn K (.ref C) "__setattr__"=some (some (.builtin "object.__setattr__"))
 ga:findIn K (.ref C) "__getattribute__"=some (some (.builtin "BaseException.__getattribute__"))
 gh:findIn K (.ref C) "__getattr__"=some none
 cl:findIn K (.ref C) "__class__"=some (some (.builtin "object.__class__"))
 clg:specialIn K (.builtin "object.__class__") "__get__"=some (some (.builtin "getset_descriptor.__get__"))
 clt:takesIn K (.builtin "object.__class__")=some true
 kp:keepIn K (.ref C)=true
theorem passes(self:Value)(C W:Addr):refuseLoop self "__setattr__" (.ref C::.ref W::mC)=pure ():=by
 rw[refuseLoop_ref,refuseLoop_ref]
 exact PySem.F.store_ValueError.passes self
theorem ExcC.cls{K:Frag}{W C:Addr}(c:ExcC K W C):∃ cd:ClassData,clsIn K C=some cd/\cd.hasDict=true/\cd.mro=.ref C::.ref W::mC:=by
 obtain ⟨nm,q,N,bs,sn,sub,ab,col,dd,k0,k1,k2,k3,k5,e⟩:=c.lk
 exact ⟨_,by unfold clsIn;rw[e],rfl,rfl⟩
theorem ExcC.mro{K:Frag}{W C:Addr}(c:ExcC K W C)(b:Value):mroIn K C b=some ((Value.ref C::.ref W::mC).contains b):=by
 obtain ⟨cd,h1,_,h3⟩:=c.cls
 unfold mroIn
 rw[h1,Option.bind_some,h3]
 rfl
section
variable{prog:Program}{w:World}{A:Around}{E:Value->Shared->Prop}{s:Shared}{K:Frag}{W C x:Addr}{name:Str}{v:Value}{vs:Array Value}
theorem vO{od:Option Addr}{o:Option Obj}{Q:Option Value->Shared->Prop}(X:K.In s.heap)(c:ExcC K W C)(I:InstAt s.heap x ⟨.ref C,od,.fields vs,#[]⟩ C o)(h:Q (some (.ref C)) {s with toks:=s.toks+1}) :
  wpAny (model prog w) A (getAttr? (.ref x) "__class__") Q E s:=by
 obtain ⟨hp,g,d,t,os⟩:=s
 obtain ⟨cd,hcd,hdct,hmro⟩:=c.cls
 have L0:=I.type (M:=model prog w)
 have L1:=looks_findIn (M:=model prog w) X c.ga
 have L2:=looks_findIn (M:=model prog w) X c.gh
 have sub:Looks (model prog w) hp (isInstance (.ref x) (.type "BaseException")) true:=L0.andThen (looks_mroIn X (by rw[c.mro];simp[mC]))
 have hf:findObj K C o "__class__"=some (.bind (.builtin "getset_descriptor.__get__") (.builtin "object.__class__")):=by
  unfold findObj
  rw[hcd,Option.bind_some,c.cl,Option.bind_some]
  simp only[c.clg,c.clt,Option.bind_some]
 have L3:=looks_find (M:=model prog w) X I hf
 unfold getAttr?
 refine wpAny_bind (wpAny_mkText ?_)
 unfold getAttrBy?
 refine wpAny_bind (wpAny_attempt ?_)
 unfold getAttrBy
 refine wpAny_holding (wpAny_bind (L0.at (wpAny_bind (L1.at ?_))))
 show wpAny _ _ (getAttrByItsOwn _ _ _ _ _ _) _ _ _
 unfold getAttrByItsOwn
 refine wpAny_bind ?_
 show wpAny _ _ (typeLookup (.ref C) "__getattr__") _ _ _
 refine L2.at (wpAny_bind (wpAny_attempt (wpAny_holding ?_)))
 unfold callGetattribute
 rw[show (false && onTheHeap (Value.builtin "BaseException.__getattribute__"))=false from rfl,if_neg Bool.false_ne_true]
 unfold boundAndCalled
 rw[PySem.F.excAttr_ValueError.ga.bind]
 refine wpAny_bind (wpAny_pure ?_)
 have hk:builtinKind "BaseException.__getattribute__"=some .slot:=by decide +kernel
 have hsplit:splitId "BaseException.__getattribute__"=some ("BaseException","__getattribute__"):=by decide +kernel
 refine wpAny_call (codeAny_call_builtin PySem.F.excAttr_ValueError.ga.plain PySem.F.entry_bexc_ga (@check_slot (model prog w) _ _ _ "BaseException.__getattribute__" "BaseException" "__getattribute__" (.ref x) [.str "__class__" t] [] _ hk hsplit sub (PySem.F.args_bexc_ga (.ref x) (.str "__class__" t)) ?_))
 refine wpAny_bind (wpAny_pure (wpAny_bind (wpAny_pure ?_)))
 refine wpAny_bind (L0.at (wpAny_bind (L3.at ?_)))
 show wpAny _ _ (holding [.builtin "object.__class__"] (call (.builtin "getset_descriptor.__get__") [.builtin "object.__class__",.ref x,.ref C]) >>= ret) _ _ _
 refine wpAny_bind (wpAny_holding (wpAny_call (class_get (s:=⟨hp,g,d,t+1,os⟩) X I (by rw[c.mro];simp[mC]) ?_)))
 refine wpAny_pure ?_
 show wpAny _ _ (handedOut (.ref C)) _ _ _
 exact wpAny_pure (wpAny_pure h)
theorem yE{od:Option Addr}{o:Option Obj}(c:ExcC K W C):KitX K (.ref x) (.ref C) (fun h=>InstAt h x ⟨.ref C,od,.fields vs,#[]⟩ C o) where
 ty:=fun _ _ _ I=>I.type
 it:=fun _ _ X _=>by
  obtain ⟨nm,q,N,bs,sn,sub,ab,col,dd,k0,k1,k2,k3,k5,e⟩:=c.lk
  intro A' Q' E' s' k q
  unfold isType loadHead
  exact wpAny_bind (wpAny_loadPart (k _ _ (X _ _ e)) (wpAny_pure q))
 ne:=fun h tp dd its n sl X htp=>by
  obtain ⟨nm,q,N,bs,sn,sub,ab,col,dd,k0,k1,k2,k3,k5,e⟩:=c.lk
  refine Bool.eq_false_iff.mpr fun q=>?_
  have e':C=tp:=Value.ref.inj (beq_iff_eq.mp q)
  subst e'
  have z:=(X _ _ e).symm.trans htp
  have z':Value.type "type"=Value.type "tuple":=congrArg Obj.cls (Option.some.inj z)
  exact absurd (Value.type.inj z') (by decide)
 ca:=fun X I k=>vO X c I k
theorem mZ{od:Option Addr}{o:Option Obj}{cv:Value}{b:Bool}{Q:Value->Shared->Prop}(X:K.In s.heap)(c:ExcC K W C)(I:InstAt s.heap x ⟨.ref C,od,.fields vs,#[]⟩ C o)(e:kitOne K (.ref C) cv=some b)(h:∀ tk,Q (.bool b) {s with toks:=tk}) :
 wpAny (model prog w) A (call (.builtin "isinstance") [.ref x,cv]) Q E s:=kia_one (yE c) X I e (fun z=>nomatch z) h
end
end SX
namespace SX
open PySem PySem.W
def mD(h:Heap)(vs:Array Value)(e:Addr)(T:Option Addr):Prop:=
 match T with
 | none=>vs[1]? = some .none
 | some t=>vs[1]? = some (.ref t)/\t≠e/\∃ oT ts x,h.get? t=some oT/\oT.data=.fields ts/\ts[3]? = some x
section
variable{M:Model}{A:Around}{E:Value->Shared->Prop}{s:Shared}
structure Noted(FL:List Addr)(e:Addr)(T:Option Addr)(C:Addr)(od:Option Addr)(h h':Heap)(T':Option Addr):Prop where
 keep:∀ b o,b∉FL->b≠e->(∀ t,T=some t->b≠t)->h.get? b=some o->h'.get? b=some o
 slot:∀ b o,b∈FL->h.get? b=some o->∃ sl,h'.get? b=some {o with slots:=sl}
 exc:∃ vs,h'.get? e=some ⟨.ref C,od,.fields vs,#[]⟩/\mD h' vs e T'
 new:(∃ t,T'=some t/\h.objs.size<=t)\/(T'=T/\T≠none)
 there:∀ t o,T=some t->h.get? t=some o->∃ o',h'.get? t=some o'
theorem yF{base:Heap}{env:Env}{outer:List Env}{L e C:Addr}{od:Option Addr}{vs:Array Value}{T:Option Addr}{Q:Unit->Shared->Prop}
  (hfr:A.frames=some (env::outer)) (hl:s.heap.FunFrames base (env::outer)) (hf:env.frame=some L) (he:s.heap.get? e=some ⟨.ref C,od,.fields vs,#[]⟩) (ht:mD s.heap vs e T)
  (h:∀ h' T',T'≠none->Noted ((env::outer).filterMap (·.frame)) e T C od s.heap h' T'->Q () {s with heap:=h'}) :
  wpAny M A (noteFrame (.ref e) env) Q E s:=by
 have frF:∀ b∈(env::outer).filterMap (·.frame),∃ o,s.heap.get? b=some o/\∀ vs,o.data≠.fields vs:=fun b hb=>(hl.mem hb).2
 have hene:e∉(env::outer).filterMap (·.frame):=fun hm=>by
  obtain ⟨o,ho,hnf⟩:=frF e hm
  rw[he] at ho;injection ho with ho;subst ho;exact hnf vs rfl
 have h1s:1 < vs.size:=by
  unfold mD at ht
  cases T with
  | none=>exact (Array.getElem?_eq_some_iff.mp ht).1
  | some t=>exact (Array.getElem?_eq_some_iff.mp ht.1).1
 have make:∀ (hp:Heap) (head:Value) (hadNext:Bool),hp.FunFrames base (env::outer)->hp.objs.size=s.heap.objs.size->hp.get? e=some ⟨.ref C,od,.fields vs,#[]⟩->
   (∀ b o,(∀ t,T=some t->b≠t)->s.heap.get? b=some o->hp.get? b=some o)->(∀ t o,T=some t->s.heap.get? t=some o->∃ o',hp.get? t=some o'/\t∉(env::outer).filterMap (·.frame)/\t≠e)->
   wpAny M A (do let a <-frameOf env;let pl <-entryPlaceOf L hadNext;let b <-EntryCells.newEntry head a .none (rawInt L) .none pl;setField (.ref e) 1 b) Q E {s with heap:=hp}:=by
  intro hp head hadNext hlp hsz hep kp tp
  refine wpAny_bind (wpAny_frameOf_fun (s:={s with heap:=hp}) hfr hlp hf fun h₁ hs₁=>?_)
  refine wpAny_bind (wpAny_entryPlaceOf fun pl hpl=>?_)
  unfold EntryCells.newEntry newFields
  refine wpAny_bind (wpAny_newObj_type ?_ (hpl.sizeOk5 _ _ _ _ _))
  have he₁:h₁.get? e=some ⟨.ref C,od,.fields vs,#[]⟩:=(hs₁.2.1 e hene).trans hep
  have he₂:=Heap.get?_push_of_some (h:=h₁) {cls:=.type "traceback",dict:=none,data:=.fields ([head,.ref L,.none,rawInt L,.none]++(if pl.isEmpty then List.replicate 6 Value.none else pl)).toArray} he₁
  refine wpAny_setField he₂ rfl h1s ?_
  have hTe:h₁.objs.size≠e:=Nat.ne_of_gt (Heap.lt_size he₁)
  have he₃:=Heap.get?_update_self (Obj.mapFields (·.setIfInBounds 1 (Value.ref h₁.objs.size))) he₂ rfl
  have hT₃:=(Heap.get?_update_other (h₁.push {cls:=.type "traceback",dict:=none,data:=.fields ([head,.ref L,.none,rawInt L,.none]++(if pl.isEmpty then List.replicate 6 Value.none else pl)).toArray})
   (Obj.mapFields (·.setIfInBounds 1 (Value.ref h₁.objs.size))) (Ne.symm hTe)).trans (Heap.get?_push_size h₁ rfl)
  have keep:∀ b o,b≠e->h₁.get? b=some o->
    ((h₁.push {cls:=.type "traceback",dict:=none,data:=.fields ([head,.ref L,.none,rawInt L,.none]++(if pl.isEmpty then List.replicate 6 Value.none else pl)).toArray}).update e (Obj.mapFields (·.setIfInBounds 1 (Value.ref h₁.objs.size)))).get? b=some o:=
   fun b o hbe hb=>by
    rw[Heap.get?_update_other _ _ (Ne.symm hbe)]
    exact Heap.get?_push_of_some _ hb
  refine h _ (some h₁.objs.size) (by simp) ⟨fun b o hb hbe hbt q=>?_,fun b o hb q=>?_,⟨vs.setIfInBounds 1 (.ref h₁.objs.size),?_,?_⟩,.inl ⟨_,rfl,by rw[hs₁.1,hsz];exact Nat.le_refl _⟩,fun t o e1 e2=>?_⟩
  ·exact keep b o hbe ((hs₁.2.1 b hb).trans (kp b o hbt q))
  ·have hbt:∀ t,T=some t->b≠t:=fun t e1 z=>by
    obtain ⟨o',q',z2,_⟩:=tp t o e1 (z▸q)
    exact z2 (z▸hb)
   obtain ⟨sl,q'⟩:=hs₁.2.2 b o (kp b o hbt q)
   exact ⟨sl,keep b _ (fun z=>hene (z▸hb)) q'⟩
  ·exact he₃
  ·refine ⟨by simp[h1s],hTe,_,_,rawInt L,hT₃,rfl,by first|(simp;done)|(rcases hpl with rfl|⟨_,_,_,_,_,_,_,rfl⟩<;>simp)⟩
  ·obtain ⟨o',q',z2,z3⟩:=tp t o e1 e2
   exact ⟨o',keep t o' z3 ((hs₁.2.1 t z2).trans q')⟩
 unfold noteFrame
 simp only[hf]
 cases T with
 | none=>
  refine wpAny_bind (wpAny_field he rfl ht ?_)
  rw[if_neg (by decide)]
  exact make s.heap .none _ hl rfl he (fun b o _ q=>q) (fun t o e1=>nomatch e1)
 | some t=>
  obtain ⟨ht1,hte,oT,ts,x,hT,hdT,h3⟩:=ht
  have tFL:t∉(env::outer).filterMap (·.frame):=fun hm=>by
   obtain ⟨o,ho,hnf⟩:=frF t hm
   rw[hT] at ho;injection ho with ho;subst ho;exact hnf ts hdT
  refine wpAny_bind (wpAny_field he rfl ht1 ?_)
  rw[if_pos (show (Value.ref t != Value.none)=true from by simp)]
  refine wpAny_bind (wpAny_field hT hdT h3 ?_)
  by_cases hx:(x == rawInt L)=true
  ·rw[if_pos hx]
   refine wpAny_pure (h s.heap (some t) (by simp) ⟨fun b o _ _ _ q=>q,fun b o _ q=>⟨o.slots,q⟩,⟨vs,he,ht1,hte,oT,ts,x,hT,hdT,h3⟩,.inr ⟨rfl,by simp⟩,fun t' o e1 q=>⟨o,q⟩⟩)
  ·rw[if_neg hx]
   refine wpAny_bind (wpAny_setField hT hdT (Array.getElem?_eq_some_iff.mp h3).1 ?_)
   have other:∀ b,b≠t->(s.heap.update t (Obj.mapFields (·.setIfInBounds 3 Value.none))).get? b=s.heap.get? b:=fun b hb=>Heap.get?_update_other _ _ (Ne.symm hb)
   have hT':=Heap.get?_update_self (Obj.mapFields (·.setIfInBounds 3 Value.none)) hT (Obj.isFreed_of_fields (Obj.data_mapFields hdT _))
   refine make (s.heap.update t (Obj.mapFields (·.setIfInBounds 3 Value.none))) _ _ (hl.of_keeps fun b o hb hnf=>⟨o,(other b fun q=>?_).trans hb,rfl⟩) (Heap.SameBut.update ..).1 ((other e (Ne.symm hte)).trans he) (fun b o hb q=>(other b (hb t rfl)).trans q) (fun t' o e1 q=>?_)
   ·rw[q,hT] at hb;injection hb with hb;subst hb;exact hnf ts hdT
   ·cases e1
    exact ⟨_,hT',tFL,hte⟩
theorem t8{e C t:Addr}{od:Option Addr}{vs:Array Value}{fr:Option Addr}{Q:Unit->Shared->Prop}(he:s.heap.get? e=some ⟨.ref C,od,.fields vs,#[]⟩)(ht:mD s.heap vs e (some t))
  (h:∀ h',Heap.SameBut t s.heap h'->mD h' vs e (some t)->Q () {s with heap:=h'}):wpAny M A (setFlight (.ref e) fr) Q E s:=by
 obtain ⟨ht1,hte,oT,ts,x,hT,hdT,h3⟩:=ht
 unfold setFlight
 refine wpAny_bind (wpAny_field he rfl ht1 ?_)
 rw[if_pos (show (Value.ref t != Value.none)=true from by simp)]
 have hsz:=(Array.getElem?_eq_some_iff.mp h3).1
 refine wpAny_setField hT hdT hsz (h _ (Heap.SameBut.update ..) ⟨ht1,hte,_,_,_,Heap.get?_update_self _ hT (Obj.isFreed_of_fields (Obj.data_mapFields hdT _)),Obj.data_mapFields hdT _,Array.getElem?_setIfInBounds_self_of_lt hsz⟩)
end
end SX
namespace L2
open PySem PySem.Spec PyProof.Rows
def ExN(e C:Addr)(od:Option Addr):HO:=.ext fun h=>∃ vs,h.get? e=some ⟨.ref C,od,.fields vs,#[]⟩/\vs[1]? = some .none
def ExO(e C:Addr)(od:Option Addr):HO:=.ext fun h=>∃ vs,h.get? e=some ⟨.ref C,od,.fields vs,#[]⟩
section
variable{P:Program}{w:World}{H:Hp}{h:Heap}{e C:Addr}{od:Option Addr}
theorem aDQ{vs:Array Value}(a:h.get? e=some ⟨.ref C,od,.fields vs,#[]⟩):bW P w H h e (ExO e C od):=
 ⟨⟨vs,a⟩,⟨_,a⟩,fun h1 h2 ⟨vs,a⟩ k=>⟨vs,k _ a⟩⟩
theorem vP(ok:HOk P w H h)(q:H e=some (ExO e C od)):∃ vs,h.get? e=some ⟨.ref C,od,.fields vs,#[]⟩:=(ok e _ q).1
end
structure FlyAt(X:Cx)(H:Hp)(h:Heap)(e C:Addr)(od:Option Addr)(traced:Bool):Prop where
 tr:H e=some (ExO e C od)
 tb:∃ vs T,h.get? e=some ⟨.ref C,od,.fields vs,#[]⟩/\SX.mD h vs e T/\(∀ t,T=some t->H t=none/\X.s₀.heap.objs.size<=t/\∀ p∈X.pn,p.1≠t)/\(traced=true->T≠none)
def Fly(X:Cx)(E:XK)(ev:Value)(s':Shared):Prop:=∃ e C od σ H',ev=.ref e/\Inv X [] σ H' s'/\FlyAt X H' s'.heap e C od false/\E (.ref C) (some e) H'
abbrev Cx.fly(X:Cx)(E:XK):Cx:=X.wish (Fly X E)
def t9(X:Cx):Prop:=X.stack=X.env::X.outer/\X.env.frame=some X.env.locals
section
variable{X:Cx}{σ:St}{H:Hp}{s:Shared}{e C:Addr}{od:Option Addr}{b:Bool}
theorem qB(I:Inv X [] σ H s){t:Addr}{oT:Obj}{ts:Array Value}(hT:s.heap.get? t=some oT)(hd:oT.data=.fields ts):t≠X.env.locals/\(∀ x c,X.env.cells.lookup x=some c->c≠t):=by
 refine ⟨fun z=>?_,fun x c q z=>?_⟩
 ·obtain ⟨m,⟨o,es,ep,ho,hd',_⟩,_⟩:=I.loc
  rw[<-z,hT] at ho;cases ho;rw[hd] at hd';cases hd'
 ·obtain ⟨v,o,ho,hd'⟩:=I.cell x c q
  rw[z,hT] at ho;cases ho;rw[hd] at hd';cases hd'
theorem qC{Q:Unit->Shared->Prop}{E':Value->Shared->Prop}(hO:t9 X)(I:Inv X [] σ H s)(f:FlyAt X H s.heap e C od b)(h:∀ s',Inv X [] σ H s'->FlyAt X H s'.heap e C od true->Q () s') :
  wpAny (model X.prog X.w) X.A (noteFrame (.ref e) X.env) Q E' s:=by
 obtain ⟨hst,hfm⟩:=hO
 obtain ⟨vs,T,he,ht,hT,_⟩:=f.tb
 have hfr:X.A.frames=some (X.env::X.outer):=by rw[<-hst];exact I.ok.frames
 have hl:s.heap.FunFrames X.base (X.env::X.outer):=by have:=I.stack;rw[hst] at this;exact this
 have hFL:(X.env::X.outer).filterMap (·.frame)=X.env.locals::X.fs:=by rw[List.filterMap_cons,hfm];rfl
 refine SX.yF (T:=T) hfr hl hfm he ht fun h' T' hT' N=>?_
 rw[hFL] at N
 have trk:∀ c u,H c=some u->c∉X.env.locals::X.fs:=fun c u q z=>by
  have:=I.stkFree c (by unfold frs;rw[hst,hFL];exact z)
  rw[q] at this;cases this
 have nT:∀ c u,H c=some u->∀ t,T=some t->c≠t:=fun c u q t e1 z=>by
  have:=(hT t e1).1
  rw[<-z,q] at this;cases this
 have hok':HOk X.prog X.w H h':=fun c u q=>by
  by_cases hc:c=e
  ·subst hc
   rw[f.tr] at q;cases q
   obtain ⟨vs',q',_⟩:=N.exc
   exact aDQ q'
  ·refine (I.hok c u q).stay (fun c' v hc' q'=>N.keep c' v ?_ ?_ ?_ q') (fun _ q=>q) (fun _ _ q=>q) fun _ _ q=>q
   ·rcases hc' with z|z
    ·rw[z];exact trk c u q
    ·exact trk c' _ z
   ·rcases hc' with z|z
    ·rw[z];exact hc
    ·intro zz;rw[zz,f.tr] at z;cases z
   ·rcases hc' with z|z
    ·rw[z];exact nT c u q
    ·exact nT c' _ z
 have I':Inv X [] σ H {s with heap:=h',gens:=s.gens,drawn:=s.drawn,toks:=s.toks}:=by
  refine I.step (ch:=T.toList) (fun c hc=>?_) (fun c o h1 h2 h3 q n=>?_) (fun c o h1 h2 h3 q n=>N.slot c o (List.mem_cons_of_mem _ h2) q) (fun _ _ _ _ n=>n) (fun c o h3 q=>?_) (fun _ _ q=>q) (fun _ _ _ q=>q) (fun _ _ q=>q) (fun m hm=>?_) hok' I.bare
  ·have e1:T=some c:=by cases T<;>simp at hc;rw[hc]
   obtain ⟨t1,t2,t3⟩:=hT c e1
   rw[e1] at ht
   obtain ⟨_,_,oT,ts,x,hTo,hTd,_⟩:=ht
   obtain ⟨a1,a2⟩:=qB I hTo hTd
   exact ⟨.inr t2,a1,a2,fun p hp=>t3 p (by simpa using hp)⟩
  ·refine N.keep c o ?_ ?_ ?_ q
   ·intro z
    rcases List.mem_cons.mp z with z|z
    ·exact h1 z
    ·exact h2 z
   ·intro z;rw[z,f.tr] at n;cases n
   ·intro t e1 z;exact h3 (by rw[e1,z];simp)
  ·by_cases hc:c=e
   ·subst hc
    obtain ⟨vs',q',_⟩:=N.exc
    exact ⟨_,q'⟩
   ·by_cases hF:c∈X.env.locals::X.fs
    ·obtain ⟨sl,q'⟩:=N.slot c o hF q
     exact ⟨_,q'⟩
    ·exact ⟨o,N.keep c o hF hc (fun t e1 z=>h3 (by rw[e1,z];simp)) q⟩
  ·obtain ⟨o,es,ep,ho,r⟩:=hm
   obtain ⟨sl,q'⟩:=N.slot _ o List.mem_cons_self ho
   exact ⟨_,es,ep,q',r⟩
 refine h _ I' ⟨f.tr,?_⟩
 obtain ⟨vs',q',t'⟩:=N.exc
 refine ⟨vs',T',q',t',fun t e1=>?_,fun _=>hT'⟩
 rcases N.new with ⟨t2,e2,hle⟩|⟨e2,_⟩
 ·rw[e1] at e2;cases e2
  refine ⟨I.hok.fresh hle,Nat.le_trans I.sz hle,fun p hp z=>?_⟩
  have:=Heap.lt_size (I.pin p (List.mem_append_left _ hp)).1
  rw[z] at this
  exact absurd (Nat.lt_of_lt_of_le this hle) (Nat.lt_irrefl _)
 ·exact hT t (e2▸e1)
theorem sK{Q:Unit->Shared->Prop}{E':Value->Shared->Prop}{fr:Option Addr}{A:Around}(I:Inv X [] σ H s)(f:FlyAt X H s.heap e C od true)(h:∀ s',Inv X [] σ H s'->FlyAt X H s'.heap e C od true->Q () s') :
  wpAny (model X.prog X.w) A (setFlight (.ref e) fr) Q E' s:=by
 obtain ⟨vs,T,he,ht,hT,hn⟩:=f.tb
 cases T with
 | none=>exact absurd rfl (hn rfl)
 | some t=>
  obtain ⟨t1,t2,t3⟩:=hT t rfl
  refine SX.t8 he ht fun h' sb ht'=>?_
  obtain ⟨_,hte,oT,ts,x,hTo,hTd,_⟩:=ht
  obtain ⟨a1,a2⟩:=qB I hTo hTd
  have I':Inv X [] σ H {s with heap:=h'}:=I.turned (t':=s.toks) (it:=t) (fun b o hb q=>(sb.2 b hb).trans q) t1 a1 (.inr t2) a2 fun p hp=>t3 p (by simpa using hp)
  exact h _ I' ⟨f.tr,vs,some t,(sb.2 e (Ne.symm hte)).trans he,ht',fun t' e1=>by cases e1;exact ⟨t1,t2,t3⟩,fun _=>by simp⟩
theorem vQ{Q:Value->Shared->Prop}{E':Value->Shared->Prop}{A:Around}(f:FlyAt X H s.heap e C od true)(h:∀ t,Q (.ref t) s):wpAny (model X.prog X.w) A (field (.ref e) 1) Q E' s:=by
 obtain ⟨vs,T,he,ht,hT,hn⟩:=f.tb
 cases T with
 | none=>exact absurd rfl (hn rfl)
 | some t=>exact wpAny_field he rfl ht.1 (h t)
theorem f7{E:XK}(hO:t9 X):PassesOwn (model X.prog X.w) X.A X.env (Fly X E):=by
 rintro ev s' ⟨e,C,od,σ,H,rfl,I,f,q⟩
 refine qC hO I f fun s2 I2 f2=>?_
 unfold cameBackBy
 refine wpAny_bind (vQ f2 fun t=>?_)
 rw[if_neg (by simp)]
 exact sK I2 f2 fun s3 I3 f3=>⟨e,C,od,σ,H,rfl,I3,⟨f3.tr,let ⟨vs,T,a,b,c,_⟩:=f3.tb;⟨vs,T,a,b,c,fun z=>nomatch z⟩⟩,q⟩
end
def CXe(P:Program)(w:World):CXT:=fun outer H s E ev s'=>∃ e C od H',ev=.ref e/\s'.os=s.os/\AllBare s'.gens/\Un (frs outer) [] H H' s.heap s'.heap/\HOk P w H' s'.heap/\H' e=some (ExO e C od) /\
 (∃ vs T,s'.heap.get? e=some ⟨.ref C,od,.fields vs,#[]⟩/\SX.mD s'.heap vs e T/\∀ t,T=some t->H' t=none/\s.heap.objs.size<=t)/\E (.ref C) (some e) H'
section
variable{X:Cx}
theorem cV{E E':XK}(hE:∀ c e H,E c e H->E' c e H):mT (CXe X.prog X.w) (X.fly E') E:=by
 rintro pins σ H s ev s' I ⟨e,C,od,H',rfl,os,bare,un,hok,he,⟨vs,T,q1,q2,q3⟩,q⟩
 have I0:Inv X pins σ H s:=I.unwish
 have I1:Inv X [] σ H s:=I0.pins_of fun p hp=>absurd hp (by simp)
 have I2:Inv X [] σ H' s':=I1.call' os un hok bare (fun b hb=>absurd hb (by simp))
 refine ⟨e,C,od,σ,H',rfl,I2,⟨he,vs,T,q1,q2,fun t e1=>?_,fun z=>nomatch z⟩,hE _ _ _ q⟩
 obtain ⟨t1,t2⟩:=q3 t e1
 refine ⟨t1,Nat.le_trans I0.sz t2,fun p hp z=>?_⟩
 have:=Heap.lt_size (I0.pin p (List.mem_append_left _ hp)).1
 rw[z] at this
 exact absurd (Nat.lt_of_lt_of_le this t2) (Nat.lt_irrefl _)
theorem PSs.unfly{E:XK}{st:List Stmt}{t:TS}(h:PSs (X.fly E) st t)(hx:∀ e s',Fly X E e s'->X.xe e s'):PSs X st t:=fun pins s σ H D I hw=>
 wpAny_mono (h pins s σ H D (I.wish _) hw) (fun f s' q=>SP.unwish q) hx
end
theorem vR{P:Program}{w:World}{K:Frag}{mg:Str->Option Value}{base:Heap}{N:List Str}{qual:Str}{scope:Scope}{f:Addr}{cd:Value}{A:Around}{outer:List Env}{s:Shared}{H:Hp}{E:XK}{ev:Value}{s':Shared}
  (h:Fly (fV (CXe P w) P w K mg base N qual scope f cd A outer s H E) E ev s'):(fV (CXe P w) P w K mg base N qual scope f cd A outer s H E).xe ev s':=by
 obtain ⟨e,C,od,σ,H',rfl,I,fl,q⟩:=h
 show wpAny (model P w) _ (leaving _ (.ref e)) _ _ s'
 unfold leaving
 have hO:t9 (fV (CXe P w) P w K mg base N qual scope f cd A outer s H E):=⟨rfl,rfl⟩
 refine wpAny_bind (qC hO I fl fun s2 I2 f2=>sK I2 f2 fun s3 I3 f3=>?_)
 obtain ⟨vs,T,a,b,c,_⟩:=f3.tb
 exact ⟨e,C,od,H',rfl,I3.os,I3.bare,I3.base,I3.hok,f3.tr,⟨vs,T,a,b,fun t e1=>⟨(c t e1).1,(c t e1).2.1⟩⟩,q⟩
section
variable{P:Program}{w:World}{K:Frag}{mg:Str->Option Value}{base:Heap}
theorem Fun.okX{x qual:Str}{st:Stmt}{f:Addr}{fd:FuncData}{N ps:List Str}{k:Nat}{sp:Sp}(F:Fun K x qual st f fd)(S:FnScope N ps (aP st))(len:∀ vs H Q E,sp vs H Q E->vs.length=ps.length)
  (hbody:∀ (cdv:Value) (A:Around) (outer:List Env) (s:Shared) (H:Hp) (vs:List V) (Q:VK) (E:XK),Room k (A.deeper (envOfC qual (aP st) s.heap.objs.size f cdv))->sp vs H Q E->
   ∃ t,PSs ((fV (CXe P w) P w K mg base N qual (aP st) f cdv A outer s H E).fly E) (dC st) t/\t {nx:=fun _ H'=>Q .non H',rt:=Q} (fU N vs) H):FnOk P w K mg base (CXe P w) (k+1) f fd ps sp:=by
 obtain ⟨oc,od,kV,doc,pm,an,cdv,ct,osl,rfl,lk,hcd⟩:=F.ex
 refine aAE lk hcd S len fun A outer s H vs Q E hr hsp=>?_
 obtain ⟨t,h,q⟩:=hbody cdv A outer s H vs Q E hr hsp
 exact ⟨t,h.unfly fun _ _ z=>vR z,q⟩
end
end L2
namespace L2
open PySem PySem.Spec PyProof.Rows
inductive TyX(K:Frag)(H:Hp):V->Value->Prop where
 | pl {x:V} {t:Value} (h:TyOf K H x t):TyX K H x t
 | exc {a W C:Addr} {d:Addr} {fs:List (Str×V)} (c:SX.ExcC K W C) (e:H a=some (ExO a C (some d))) (ed:H d=some (.xd fs)):TyX K H (.ref a) (.ref C)
 | exc0 {a W C:Addr} (c:SX.ExcC K W C) (e:H a=some (ExO a C none)):TyX K H (.ref a) (.ref C)
def uA:V->Option Value
 | .ty n=>some (.type n)
 | .ref a=>some (.ref a)
 | _=>none
theorem n4{x:V}{u v:Value}(h:uA x=some v)(r:aR x u):u=v:=by
 cases x with
 | ty n=>cases h;exact r
 | ref a=>cases h;exact r
 | _=>cases h
theorem gG{X:Cx}:dY X (.builtin "isinstance") (fun xs H Q=>∃ x c t cv b,xs=[x,c]/\TyX X.K H x t/\uA c=some cv/\PySem.W.kitOne X.K t cv=some b/\Q (.bl b) H):=by
 intro pins s σ H xs us Q I r h
 obtain ⟨x,c,t,cv,b,rfl,ty,hc,e,q⟩:=h
 obtain ⟨u,v,rfl,ru,rv⟩:=mS r
 obtain rfl:=n4 hc rv
 cases ty with
 | pl ty=>exact vI I ru ty e fun tk=>⟨.bl b,H,I.tok _,rfl,q⟩
 | @exc a W C d fs cc ea ed=>
  cases (show u=Value.ref a from ru)
  obtain ⟨vs,hx⟩:=vP I.hok ea
  obtain ⟨mA,hns,r⟩:=(show bW X.prog X.w H s.heap d (.xd fs) from I.hok d _ ed)
  obtain ⟨od,hod,_⟩:=oV hns
  exact SX.mZ (o:=some od) I.kIn cc ⟨hx,rfl,rfl,hod⟩ e fun tk=>⟨.bl b,H,I.tok _,rfl,q⟩
 | @exc0 a W C cc ea=>
  cases (show u=Value.ref a from ru)
  obtain ⟨vs,hx⟩:=vP I.hok ea
  exact SX.mZ (o:=none) I.kIn cc ⟨hx,rfl,rfl,True.intro⟩ e fun tk=>⟨.bl b,H,I.tok _,rfl,q⟩
end L2
namespace SX
open PySem PySem.W
structure ExcAny(K:Frag)(C:Addr)(bm:List Value):Prop where
 lk:∃ nm q N bs hd sn sub ab col dd k0 k1 k2 k3 k5 newId,K.lookup C=some (excClassObj nm q C N bs bm hd sn sub ab col dd k0 k1 k2 k3 k5 newId)
 base:bm.contains (.type "BaseException")=true
end SX
namespace L2
open PySem PySem.Spec PyProof.Rows
end L2
namespace L2
open PySem PySem.Spec PyProof.Rows
section
variable{X:Cx}
theorem vS(hc:X.calm=true):dY X (.builtin "all") (fun xs H Q=>∃ (a:Addr) (bs:List Bool),xs=[.ref a]/\SqL X.K H a (bs.map V.bl)/\Q (.bl (bs.all id)) H):=by
 intro pins s σ H xs us Q I r h
 obtain ⟨a,bs,rfl,hq,q⟩:=h
 obtain ⟨u,rfl,ru⟩:=iX r
 cases (show u=Value.ref a from ru)
 obtain ⟨its,rv,p,hz⟩:=I.list hq
 have hl:its.length=bs.length:=by rw[<-rv.length,List.length_map]
 refine call_all_walk (wpAny_pyIter_list p.isList ?_)
 have ne:a≠s.heap.objs.size:=by
  obtain ⟨o,e,_⟩:=p.isList
  exact Nat.ne_of_lt (Heap.lt_size e)
 refine ⟨_,_,_,_,_,_,fun i=>bs.getD i true,rfl,Walks.list (show X.A.in1.handled=none from I.ok.hd hc) s.heap.objs.size a ne its.toArray,⟨⟨_,Heap.get?_push_size _ rfl,rfl,rfl⟩,p.isList.at fun o e=>Heap.get?_push_of_some _ e⟩,?_,?_⟩
 ·intro i v s' Q' E' hP hQ
  have hP:its.toArray[i]? = some v:=hP
  have hi:its[i]? = some v:=by simpa using hP
  have hlt:i < bs.length:=by rw[<-hl];exact (List.getElem?_eq_some_iff.mp hi).1
  have hb:(bs.map V.bl)[i]? = some (V.bl bs[i]):=by simp[hlt]
  obtain ⟨u',hu,ru'⟩:=rv.get hb
  rw[hi] at hu;cases hu
  cases (show v=Value.bool bs[i] from ru')
  refine wpAny_truthy_bool ?_
  have e:bs.getD i true=bs[i]:=by rw[List.getD_eq_getElem?_getD,List.getElem?_eq_getElem hlt];rfl
  rw[<-e];exact hQ
 ·intro h' tk kp
  have e:(List.range its.toArray.size).all (fun i=>bs.getD i true)=bs.all id:=by
   rw[List.size_toArray,hl,Bool.eq_iff_iff,List.all_eq_true,List.all_eq_true]
   constructor
   ·intro h x hx
    obtain ⟨i,hi,rfl⟩:=List.mem_iff_getElem.mp hx
    have:=h i (List.mem_range.mpr hi)
    rw[List.getD_eq_getElem?_getD,List.getElem?_eq_getElem hi] at this
    exact this
   ·intro h i hi
    have hi:=List.mem_range.mp hi
    rw[List.getD_eq_getElem?_getD,List.getElem?_eq_getElem hi]
    exact h _ (List.getElem_mem hi)
  rw[e]
  refine ⟨.bl _,H,?_,rfl,q⟩
  exact I.kept (t':=tk) fun b o e=>kp b o (fun z=>by
   have:=Heap.lt_size e
   rw[List.mem_singleton.mp z] at this
   exact Nat.lt_irrefl _ this) (Heap.get?_push_of_some _ e)
end
end L2
namespace L2
open PySem PySem.Spec PyProof.Rows
structure Blt(mg:Str->Option Value):Prop where
 b_len:mg "len"=none
 b_isinstance:mg "isinstance"=none
 b_all:mg "all"=none
 b_max:mg "max"=none
 b_min:mg "min"=none
 b_int:mg "int"=none
 b_str:mg "str"=none
 b_bool:mg "bool"=none
 b_tuple:mg "tuple"=none
 b_list:mg "list"=none
 b_range:mg "range"=none
 b_enumerate:mg "enumerate"=none
 b_ValueError:mg "ValueError"=none
structure DefAt(K:Frag)(mg:Str->Option Value)(x:Str)(st:Stmt)(ps:List Str):Prop where
 ex:∃ f fd,Fun K x x st f fd/\gF K fd ps []/\mg x=some (.ref f)
def Calls(P:Program)(w:World)(K:Frag)(mg:Str->Option Value)(base:Heap)(CX:CXT)(k:Nat)(x:Str)(ps:List Str)(sp:Sp):Prop:=
 ∃ f fd,FnOk P w K mg base CX k f fd ps sp/\gF K fd ps []/\mg x=some (.ref f)/\PySem.W.keepIn K (.ref f)=true
section
variable{P:Program}{w:World}{K:Frag}{mg:Str->Option Value}{base:Heap}{x:Str}{st:Stmt}{N ps:List Str}{k:Nat}{sp:Sp}
theorem DefAt.ok(D:DefAt K mg x st ps)(S:FnScope N ps (aP st))(len:∀ vs H Q E,sp vs H Q E->vs.length=ps.length)
  (hbody:∀ (f:Addr) (cdv:Value) (A:Around) (outer:List Env) (s:Shared) (H:Hp) (vs:List V) (Q:VK) (E:XK),Room k (A.deeper (envOfC x (aP st) s.heap.objs.size f cdv))->sp vs H Q E->
   ∃ t,PSs (fV CX0 P w K mg base N x (aP st) f cdv A outer s H E).nox (dC st) t/\t {nx:=fun _ H'=>Q .non H',rt:=Q} (fU N vs) H):Calls P w K mg base CX0 (k+1) x ps sp:=by
 obtain ⟨f,fd,F,b,m⟩:=D.ex
 exact ⟨f,fd,F.ok S len (hbody f),b,m,F.kp⟩
theorem DefAt.okX(D:DefAt K mg x st ps)(S:FnScope N ps (aP st))(len:∀ vs H Q E,sp vs H Q E->vs.length=ps.length)
  (hbody:∀ (f:Addr) (cdv:Value) (A:Around) (outer:List Env) (s:Shared) (H:Hp) (vs:List V) (Q:VK) (E:XK),Room k (A.deeper (envOfC x (aP st) s.heap.objs.size f cdv))->sp vs H Q E->
   ∃ t,PSs ((fV (CXe P w) P w K mg base N x (aP st) f cdv A outer s H E).fly E) (dC st) t/\t {nx:=fun _ H'=>Q .non H',rt:=Q} (fU N vs) H):Calls P w K mg base (CXe P w) (k+1) x ps sp:=by
 obtain ⟨f,fd,F,b,m⟩:=D.ex
 exact ⟨f,fd,F.okX S len (hbody f),b,m,F.kp⟩
theorem Calls.imp{CX:CXT}{sp':Sp}(C:Calls P w K mg base CX k x ps sp)(h:∀ vs H Q E,sp' vs H Q E->sp vs H Q E):Calls P w K mg base CX k x ps sp':=by
 obtain ⟨f,fd,F,b,m,kp⟩:=C
 exact ⟨f,fd,F.imp h,b,m,kp⟩
end
section
variable{X:Cx}{CX:CXT}{k:Nat}{x:Str}{ps:List Str}{sp:Sp}{E:XK}{p pos:Pos}{e:Expr}{es:List Expr}{t:TA}
theorem cW(C:Calls X.prog X.w X.K X.mg X.base CX k x ps sp)(hr:Room k X.A)(hg:Gl X x)(hx:mT CX X E)(ha:PA X (e::es) t)(hdb:(x == ("__debug__":Str))=false:=by decide)
  (he:starEach (e::es) X.env=(false,eval e X.env)::starEach es X.env:=by rfl) (hpl:(backTo pos (starEach es X.env)).any (·.1)=false:=by rfl):PE X (.Call (.Name x p) (e::es) [] pos) (tY sp [] E t):=by
 obtain ⟨f,fd,F,b,m,kp⟩:=C
 exact aA5 F hr hg m kp b .nil hx ha hdb he hpl
end
def spI(C:Addr)(fs:List Str):Sp:=fun vs H Q _=>∃ e xs,vs=.ref e::xs/\xs.length=fs.length/\H e=some (ExN e C none)/\∀ d,H d=none->d≠e->Q .non (upd (upd H e (ExN e C (some d))) d (.xd (fs.zip xs)))
structure ErrAt(P:Program)(w:World)(K:Frag)(mg:Str->Option Value)(base:Heap)(x:Str)(fs:List Str)(W C:Addr):Prop where
 c:SX.ExcC K W C
 m:mg x=some (.ref C)
 na:∀ f∈fs,PySem.W.findIn K (.ref C) f=some none
 i:∃ fI fdI,FnOk P w K mg base CX0 1 fI fdI ("self"::fs) (spI C fs)/\PySem.W.findIn K (.ref C) "__init__"=some (some (.ref fI))/\PySem.W.typeIn K (.ref fI)=some (.type "function")/\gF K fdI ("self"::fs) []
theorem DatV.tup_of{K:Frag}{H:Hp}{v:V}{ds:List PyData}(h:DatV K H v (.tuple ds)):∃ a xs,v=.ref a/\SqT K H a xs/\DatVs K H xs ds:=by
 cases h with
 | tup h1 h2=>exact ⟨_,_,rfl,h1,h2⟩
theorem DatV.lst_of{K:Frag}{H:Hp}{v:V}{ds:List PyData}(h:DatV K H v (.list ds)):∃ a xs,v=.ref a/\SqL K H a xs/\DatVs K H xs ds:=by
 cases h with
 | lst h1 h2=>exact ⟨_,_,rfl,h1,h2⟩
theorem DatV.int_of{K:Frag}{H:Hp}{v:V}{i:Int}(h:DatV K H v (.int i)):v=.int i:=by cases h;rfl
theorem DatV.str_of{K:Frag}{H:Hp}{v:V}{i:Str}(h:DatV K H v (.str i)):v=.str i:=by cases h;rfl
theorem DatVs.cons_of{K:Frag}{H:Hp}{xs:List V}{d:PyData}{ds:List PyData}(h:DatVs K H xs (d::ds)):∃ x t,xs=x::t/\DatV K H x d/\DatVs K H t ds:=by
 cases h with
 | cons h1 h2=>exact ⟨_,_,rfl,h1,h2⟩
theorem DatVs.nil_of{K:Frag}{H:Hp}{xs:List V}(h:DatVs K H xs []):xs=[]:=by cases h;rfl
theorem cU.nil:cU [] []:=⟨rfl,fun _ _ h=>by simp at h⟩
theorem cU.nil_of{σ:St}(h:cU [] σ):σ=[]:=List.length_eq_zero_iff.mp h.1
def SqS(K:Frag)(H:Hp)(a:Addr)(xs:List V):Prop:=SqL K H a xs\/SqT K H a xs
theorem SqS.same{K:Frag}{H H':Hp}{a:Addr}{xs:List V}(e:aF H H')(h:SqS K H a xs):SqS K H' a xs:=h.imp (SqL.same e) (SqT.same e)
theorem PI.or{X:Cx}{tg iter:Expr}{w1 w2:TI}(h1:PI X tg iter w1)(h2:PI X tg iter w2):PI X tg iter (fun σ H R=>w1 σ H R\/w2 σ H R):=fun pins s σ H R I h=>h.elim (h1 pins s σ H R I) (h2 pins s σ H R I)
def aG1(K:Frag)(tl:TE):TI:=fun σ H R=>tl σ H fun x H1=>∃ a,x=.ref a/\(((∃ xs,SqL K H1 a xs)/\R (Itl K a) H1)\/((∃ xs,SqT K H1 a xs)/\R (Itt K a) H1))
theorem vT{X:Cx}{tg l:Expr}{tl:TE}(hl:PE X l tl):PI X tg l (aG1 X.K tl):=by
 intro pins s σ H R I h
 refine thn (hl pins s σ H _ I h) fun v s1 zz0=>?_
 obtain ⟨x,H1,I1,r1,q1⟩:=zz0
 obtain ⟨a,e,q⟩:=q1
 subst e
 cases r1
 rcases q with ⟨⟨xs,hq⟩,q⟩|⟨⟨xs,hq⟩,q⟩
 ·obtain ⟨its,rv,p,hz⟩:=I1.list hq
  refine wpAny_pyIter_list p.isList ?_
  refine ⟨s1.heap.objs.size,[s1.heap.objs.size],_,_,H1,rfl,I1.kept (t':=s1.toks) fun b o e=>Heap.get?_push_of_some _ e,vC a _,⟨_,Heap.get?_push_size _ rfl,rfl,rfl⟩,fun b hb=>?_,q⟩
  obtain rfl:=List.mem_singleton.mp hb
  exact I1.fpOk (Nat.le_refl _) (I1.hok.fresh (Nat.le_refl _))
 ·obtain ⟨its,rv,p,hz⟩:=I1.tuple hq
  refine wpAny_pyIter_tuple (show s1.heap.IsTuple a its.toArray from p) ?_
  refine ⟨s1.heap.objs.size,[s1.heap.objs.size],_,_,H1,rfl,I1.kept (t':=s1.toks) fun b o e=>Heap.get?_push_of_some _ e,tT a _,⟨_,Heap.get?_push_size _ rfl,rfl,rfl⟩,fun b hb=>?_,q⟩
  obtain rfl:=List.mem_singleton.mp hb
  exact I1.fpOk (Nat.le_refl _) (I1.hok.fresh (Nat.le_refl _))
end L2
namespace L2
open PySem PySem.Spec PyProof.Rows
def aFJ(i j:Int):Prop:=0 < j/\j < 2 ^ 64
theorem yG{X:Cx}:OpR X (binaryOp .FloorDiv) (rI aFJ fun i j=>.int (i / j)):=opI fun i j _ _ _ _ _ hc q=>by
 have h1:(0:Int) < j:=hc.1
 have h2:j < 2 ^ 64:=hc.2
 have h3:j.natAbs < 2 ^ 64:=by omega
 have h4:j.natAbs.log2 < 64:=(Nat.log2_lt (by omega)).mpr h3
 exact floordiv_int (by omega) (by rw[Int.fdiv_eq_ediv_of_nonneg i (by omega)];exact q) (.inl (PyProof.noPylong_of_log2 (by omega)))
section
variable{X:Cx}
def aG2:V->Option Int->Option Int->Hp->VK->Prop:=fun x lo hi H Q=>∃ z,x=.str z/\z.length<=sizeLine/\Q (.str (Txt.slice z lo hi)) H
theorem sL{v:Value}{o:Option Int}(h:IsPart v o):∃ l:Option (Int×Tok),partValue l=v/\l.map (·.1)=o:=by
 cases h with
 | none=>exact ⟨none,rfl,rfl⟩
 | int i t=>exact ⟨some (i,t),rfl,rfl⟩
theorem aDR:SlR X aG2:=by
 intro pins s σ H x v vl vu lo hi sl Q I rx hs pl pu h
 obtain ⟨z,rfl,hz,q⟩:=h
 obtain ⟨t,rfl⟩:=rx
 obtain ⟨l,rfl,el⟩:=sL pl
 obtain ⟨u,rfl,eu⟩:=sL pu
 obtain ⟨o,ho,hc,hd⟩:=hs
 refine ⟨"str",_,PyProof.Rows.slot_str_getitem.lookup,rfl,?_⟩
 refine wpAny_getItem_str_slice (l:=l) (u:=u) (st:=none) ⟨o,ho,hc,hd⟩ rfl ?_
 have le:=Txt.slice_le z lo hi
 unfold Txt.slice at q le
 unfold sliceMade slicePicked
 rw[el,eu]
 simp only[beq_self_eq_true,Bool.true_and,Option.map_none,Option.getD_none] at q le ⊢
 by_cases hb:((Builtin.Str.strSliceIndices lo hi 1 z.length).length == z.length)=true
 ·rw[if_pos hb] at q ⊢
  exact ⟨.str z,H,I,⟨t,rfl⟩,q⟩
 ·rw[if_neg hb] at q le ⊢
  exact ⟨Nat.le_trans le hz,.str _,H,I.tok _,⟨_,rfl⟩,q⟩
end
theorem qD{X:Cx}:dY X (.builtin "isinstance") (fun xs H Q=>∃ a ys c cv b,xs=[.ref a,c]/\SqT X.K H a ys/\uA c=some cv/\PySem.W.kitOne X.K (.type "tuple") cv=some b/\Q (.bl b) H):=by
 intro pins s σ H xs us Q I r h
 obtain ⟨a,ys,c,cv,b,rfl,ha,hc,e,q⟩:=h
 obtain ⟨u,v,rfl,ru,rv⟩:=mS r
 obtain rfl:=n4 hc rv
 cases (show u=Value.ref a from ru)
 obtain ⟨its,_,⟨o,h1,h2,_⟩,_⟩:=I.tuple ha
 exact PySem.W.kia_one PySem.W.kitx_tuple I.kIn ⟨o,h1,h2⟩ e (fun z=>nomatch z) fun tk=>⟨.bl b,H,I.tok _,rfl,q⟩
structure RoomH(k:Nat)(A:Around):Prop where
 dp:A.depth+3 * k+5 < recursionLimit
 un:A.units+16 * k+200 < cLine
theorem Room.h{k:Nat}{A:Around}(r:Room k A):RoomH k A:=⟨r.dp,r.un⟩
structure FnOkH(P:Program)(w:World)(K:Frag)(mg:Str->Option Value)(base:Heap)(k:Nat)(f:Addr)(fd:FuncData)(ps:List Str)(sp:Sp):Prop where
 len:∀ vs H Q E,sp vs H Q E->vs.length=ps.length
 run:∀ (A:Around) (outer:List Env) (s:Shared) (H:Hp) (args:Args) (us:List Value) (vs:List V) (Q:VK),RoomH k A->Env0 P w K mg base A outer s H->BindsTo s fd args (ps.zip us)->aV vs us->sp vs H Q E0->
  codeAny (model P w) A (.call (.ref f) args) (CR CX0 outer P w H s Q E0) s
theorem FnOkH.ok{P:Program}{w:World}{K:Frag}{mg:Str->Option Value}{base:Heap}{k:Nat}{f:Addr}{fd:FuncData}{ps:List Str}{sp:Sp}(F:FnOkH P w K mg base k f fd ps sp)(hE:∀ vs H Q E,sp vs H Q E->sp vs H Q E0):FnOk P w K mg base CX0 k f fd ps sp:=
 ⟨F.len,fun A outer s H args us vs Q E hr he hb hv hs=>codeAny_mono (F.run A outer s H args us vs Q hr.h he hb hv (hE _ _ _ _ hs)) fun r s' h=>by
  cases r with
  | error e=>exact h
  | ok fl=>cases fl<;>exact h⟩
end L2
namespace Mc
open PySem L2 PyProof.Rows
inductive Tn where
 | n (i:Int)|w (x:Str)
noncomputable def Tn.v:Tn->V
 | .n i=>.int i
 | .w x=>.str x
noncomputable def Tn.d:Tn->PyData
 | .n i=>.int i
 | .w x=>.str x
structure Rw where
 l:Tn
 c:List (Int×Int)
 r:Tn
def aFK(c:Int×Int):PyData:=.tuple [.int c.1,.int c.2]
inductive CellsAt(K:Frag)(H:Hp):List V->List (Int×Int)->Prop
 | nil:CellsAt K H [] []
 | cons {q:Addr} {a b:Int} {xs:List V} {cs:List (Int×Int)} (h:SqS K H q [.int a,.int b]) (t:CellsAt K H xs cs):CellsAt K H (.ref q::xs) ((a,b)::cs)
def pO(K:Frag)(H:Hp)(v:V)(r:Rw):Prop:=∃ p b cs,v=.ref p/\SqS K H p [r.l.v,.ref b,r.r.v]/\SqS K H b cs/\CellsAt K H cs r.c
inductive RowsAt(K:Frag)(H:Hp):List V->List Rw->Prop
 | nil:RowsAt K H [] []
 | cons {v:V} {r:Rw} {xs:List V} {rs:List Rw} (h:pO K H v r) (t:RowsAt K H xs rs):RowsAt K H (v::xs) (r::rs)
section
variable{K:Frag}{H H':Hp}
theorem CellsAt.same(e:aF H H'):∀ {xs:List V} {cs:List (Int×Int)},CellsAt K H xs cs->CellsAt K H' xs cs
 | _,_,.nil=>.nil
 | _,_,.cons h t=>.cons (h.same e) (t.same e)
theorem CellsAt.len:∀ {xs:List V} {cs:List (Int×Int)},CellsAt K H xs cs->xs.length=cs.length
 | _,_,.nil=>rfl
 | _,_,.cons h t=>by simp[t.len]
theorem pO.same(e:aF H H'){v:V}{r:Rw}(h:pO K H v r):pO K H' v r:=by
 obtain ⟨p,b,cs,h1,h2,h3,h4⟩:=h
 exact ⟨p,b,cs,h1,h2.same e,h3.same e,h4.same e⟩
theorem RowsAt.same(e:aF H H'):∀ {xs:List V} {rs:List Rw},RowsAt K H xs rs->RowsAt K H' xs rs
 | _,_,.nil=>.nil
 | _,_,.cons h t=>.cons (h.same e) (t.same e)
theorem RowsAt.len:∀ {xs:List V} {rs:List Rw},RowsAt K H xs rs->xs.length=rs.length
 | _,_,.nil=>rfl
 | _,_,.cons h t=>by simp[t.len]
end
noncomputable def Tn.ok:Tn->Prop
 | .n _=>True
 | .w x=>PyData.strOk x=true
def Rw.ok(r:Rw):Prop:=r.l.ok/\r.r.ok
theorem n5:∀ {xs:List PyData},(∀ x∈xs,x.canLay0=true)->PyData.canLayAll0 xs=true
 | [],_=>by rfl
 | x::t,h=>by
  show (x.canLay0 && PyData.canLayAll0 t)=true
  rw[h x (List.mem_cons_self ..),n5 fun y hy=>h y (List.mem_cons_of_mem _ hy)];rfl
theorem kO{n:Nat}:∀ {xs:List PyData},(∀ x∈xs,x.depth<=n)->PyData.depthAll xs<=n
 | [],_=>Nat.zero_le _
 | x::t,h=>by
  show max x.depth (PyData.depthAll t)<=n
  exact Nat.max_le.mpr ⟨h x (List.mem_cons_self ..),kO fun y hy=>h y (List.mem_cons_of_mem _ hy)⟩
def Sh(n:Nat)(d:PyData):Prop:=d.canLay0=true/\d.depth<=n
theorem vU{n:Nat}{xs:List PyData}(h:∀ x∈xs,Sh n x):Sh (n+1) (.tuple xs):=⟨n5 fun x hx=>(h x hx).1,by
 have:=kO fun x hx=>(h x hx).2
 show PyData.depthAll xs+1<=n+1
 omega⟩
theorem sh_lst{n:Nat}{xs:List PyData}(h:∀ x∈xs,Sh n x):Sh (n+1) (.list xs):=⟨n5 fun x hx=>(h x hx).1,by
 have:=kO fun x hx=>(h x hx).2
 show PyData.depthAll xs+1<=n+1
 omega⟩
theorem m7(n:Nat)(i:Int):Sh n (.int i):=⟨rfl,Nat.zero_le _⟩
theorem Sh.shaped{n:Nat}{d:PyData}(h:Sh n d)(hn:n<=64):SeqAt.shaped d=true:=by
 show (d.canLay0 && decide (d.depth<=64))=true
 rw[h.1,decide_eq_true (Nat.le_trans h.2 hn)];rfl
section
variable{K:Frag}{H:Hp}{p q:Addr}{xs ys:List V}{o:HO}
inductive NoL:PyData->Prop where
 | int (i:Int):NoL (.int i)
 | str (i:Str):NoL (.str i)
 | tup {ds:List PyData} (h:∀ d∈ds,NoL d):NoL (.tuple ds)
end
section
variable{K:Frag}{h:Heap}{mg:Str->Option Value}
theorem dF{x:Str}{st:Stmt}{ps:List Str}{f:Addr}{oc:Value}{od an:Option Addr}{osl:Array (Option Value)}{kV doc pm cdv ct:Value}(X:K.In h)(G:h.Ns mainGlobals mg)
  (a:PySem.W.nsIn K mainGlobals x=some (some (.ref f))) (l:K.lookup f=some ⟨oc,od,.func (PySem.W.fnOf x x (eX st) (dC st) (aP st) .none kV doc pm an cdv ct),osl⟩)
  (c:PySem.W.codeIn K cdv x=true) (k:PySem.W.keepIn K (.ref f)=true)
  (b:∀ (kV doc pm:Value) (an:Option Addr) (cdv ct:Value) (us:List Value),us.length=ps.length->bindArgs (PySem.W.fnOf x x (eX st) (dC st) (aP st) .none kV doc pm an cdv ct) ⟨us,[]⟩=pure (ps.zip us)):DefAt K mg x st ps:=by
 have F:=vN (st:=st) l c k
 exact ⟨f,_,F,F.binds b,PySem.W.mg_of X G a⟩
end
end Mc
namespace Mc
open PySem L2 PyProof.Rows
noncomputable def vW(n c:Nat):Bool:=decide (97<=c/\c < 97+n)
end Mc
namespace L2
open PySem PySem.Spec PyProof.Rows
section
variable{κ:Type}[DecidableEq κ]
theorem gX.getD{o:Option V}{u:Option Value}{d:V}{d':Value}(r:gX o u)(rd:aR d d'):aR (o.getD d) (u.getD d'):=by
 cases o with
 | none=>cases u with
  | none=>exact rd
  | some _=>exact (show False from r).elim
 | some _=>cases u with
  | none=>exact (show False from r).elim
  | some _=>exact r
theorem KV.length{kvs:List (κ×V)}{vs:List (κ×Value)}(r:KV kvs vs):kvs.length=vs.length:=Paired.length r
end
theorem aAH{P:Program}{w:World}{k:Key}{u:Value}(r:aR (kV k) u):(cP P w).is k u=true:=by
 cases k with
 | inl i=>obtain ⟨t,e⟩:=(show ∃ t,u=Value.int i t from r);subst e;exact r0 P w i t
 | inr x=>obtain ⟨t,e⟩:=(show ∃ t,u=Value.str x t from r);subst e;exact r6 P w x t
section
variable{X:Cx}{pins:List (Addr×Obj)}{σ:St}{H:Hp}{s:Shared}{a:Addr}{y v:V}{u r:Value}{o:Option V}{A:Around}{E:Value->Shared->Prop}
theorem Inv.big(I:Inv X pins σ H s):sysModules < s.heap.objs.size:=by
 have h:mainGlobals < s.heap.objs.size:=(I.mod.glob.keeps I.bk).lt
 exact Nat.lt_trans (by decide) h
theorem iE{h':Heap}{t':Nat}{ob:HO}(I:Inv X pins σ H s)(mu:Mut (H a))(hs:Heap.SameBut a s.heap h')(he:∃ q,h'.get? a=some q)(new:bW X.prog X.w (upd H a ob) h' a ob) :
  Inv X pins σ (upd H a ob) {s with heap:=h',toks:=t'}:=
 I.write (x:=a) (e:=a) mu (.inl rfl) (fun b q hb z=>(hs.2 b hb).trans z) he new
end
def aDS(i:Expr):Prop:=∀ ov iv,subscripted i false ov iv=operate [ov,iv] (getItem ov iv)
theorem aBE{prog:Program}{w:World}{A:Around}{E:Value->Shared->Prop}{s:Shared}{env:Env}{value slice:Expr}{pos:Pos}{T id:String}{Q:Value->Shared->Prop}
  (hl:typeLookup (.type T) "__getitem__"=pure (some (.builtin id))) (hs:aDS slice)
  (h:wpAny (model prog w) A (eval value env) (fun o s₁=>wpAny (model prog w) A (eval slice env) (fun i s₂=>s₂.TypeIs o T/\wpAny (model prog w) A (getItem o i) Q E s₂) E s₁) E s) :
  wpAny (model prog w) A (eval (.Subscript value slice pos) env) Q E s:=by
 refine Subscript_ (wpAny_mono h (fun o s₁ h₁=>wpAny_mono h₁ (fun i s₂ h₂=>?_) fun _ _ x=>x) fun _ _ x=>x)
 obtain ⟨hT,h₂⟩:=h₂
 unfold subscriptTail
 refine wpAny_bind ?_
 rw[getitemInPython_of_ne hT.not_modules]
 refine wpAny_bind (wpAny_specialOf hT hl ?_)
 have fin:wpAny (model prog w) A (subscripted slice false o i) (fun r s₃=>wpAny (model prog w) A (letTemporaryGo value o r >>= fun _=>pure r) Q E s₃) E s₂:=by
  rw[hs o i]
  exact wpAny_operating (wpAny_mono h₂ (fun r s₃ h₃=>wpAny_bind (wpAny_letTemporaryGo (wpAny_pure h₃))) fun _ _ x=>x)
 first
  | exact wpAny_pure (wpAny_bind fin)
  | exact wpAny_bind (wpAny_pure (wpAny_bind fin))
  | exact wpAny_bind fin
structure M1(X:Cx)(o:Expr)(m:Str)(apos:Pos)(e:Expr)(cpos:Pos):Prop where
 base:attributeBase o m X.env (eval o X.env)=eval o X.env
 few:((backTo cpos (starEach [e] X.env)).all (fun x=>!x.1) && (backToKw cpos (keywordEach [] X.env)).all (fun x=>x.1.isSome)
  && decide (([e]:List Expr).length+([]:List Keyword).length+(if ([]:List Keyword).isEmpty then 0 else 1) < 30))=true
 line:(apos.endLine == cpos.line)=true
 trees:backTo cpos (starEach [e] X.env)=[(false,eval e X.env)]
structure M2(X:Cx)(o:Expr)(m:Str)(apos:Pos)(e f:Expr)(cpos:Pos):Prop where
 base:attributeBase o m X.env (eval o X.env)=eval o X.env
 few:((backTo cpos (starEach [e,f] X.env)).all (fun x=>!x.1) && (backToKw cpos (keywordEach [] X.env)).all (fun x=>x.1.isSome)
  && decide (([e,f]:List Expr).length+([]:List Keyword).length+(if ([]:List Keyword).isEmpty then 0 else 1) < 30))=true
 line:(apos.endLine == cpos.line)=true
 trees:backTo cpos (starEach [e,f] X.env)=[(false,eval e X.env),(false,eval f X.env)]
end L2
namespace L2
open PySem PySem.Spec PyProof.Rows
end L2
namespace L2
open PySem PySem.Spec PyProof.Rows
theorem hu1{A:Around}{k:Nat}(hr:Room k A):A.units+1 < cLine:=Nat.lt_of_le_of_lt (Nat.add_le_add_left (by decide:1<=64) _) hr.units
def i9(K:Frag)(H:Hp)(ks:List (List Key×Addr)):Prop:=∀ p∈ks,SqT K H p.2 (p.1.map kV)
theorem i9.same{K:Frag}{H H':Hp}{ks:List (List Key×Addr)}(e:aF H H')(h:i9 K H ks):i9 K H' ks:=fun p hp=>SqT.same e (h p hp)
theorem SqT.ext{K:Frag}{H:Hp}{a q:Addr}{φ:Heap->Prop}{o:HO}{xs:List V}(h:SqT K H q xs)(ha:H a=some (.ext φ)):SqT K (upd H a o) q xs:=by
 rcases h with (h|⟨u,h⟩)|h
 ·refine .inl (.inl ?_)
  rw[aK (fun z=>by rw[z,ha] at h;cases h)];exact h
 ·refine .inl (.inr ⟨u,?_⟩)
  rw[aK (fun z=>by rw[z,ha] at h;cases h)];exact h
 ·exact .inr h
theorem SqL.ext{K:Frag}{H:Hp}{a q:Addr}{φ:Heap->Prop}{o:HO}{xs:List V}(h:SqL K H q xs)(ha:H a=some (.ext φ)):SqL K (upd H a o) q xs:=by
 rcases h with (h|⟨u,h⟩)|h
 ·refine .inl (.inl ?_)
  rw[aK (fun z=>by rw[z,ha] at h;cases h)];exact h
 ·refine .inl (.inr ⟨u,?_⟩)
  rw[aK (fun z=>by rw[z,ha] at h;cases h)];exact h
 ·exact .inr h
mutual
theorem DatV.ext{K:Frag}{H:Hp}{a:Addr}{φ:Heap->Prop}{o:HO}(ha:H a=some (.ext φ)):∀ {x:V} {d:PyData},DatV K H x d->DatV K (upd H a o) x d
 | _,_,.non=>.non
 | _,_,.bl b=>.bl b
 | _,_,.int i=>.int i
 | _,_,.str x=>.str x
 | _,_,.lst h ds=>.lst (h.ext ha) (DatVs.ext ha ds)
 | _,_,.tup h ds=>.tup (h.ext ha) (DatVs.ext ha ds)
theorem DatVs.ext{K:Frag}{H:Hp}{a:Addr}{φ:Heap->Prop}{o:HO}(ha:H a=some (.ext φ)):∀ {xs:List V} {ds:List PyData},DatVs K H xs ds->DatVs K (upd H a o) xs ds
 | _,_,.nil=>.nil
 | _,_,.cons h t=>.cons (DatV.ext ha h) (DatVs.ext ha t)
end
theorem i9.ext{K:Frag}{H:Hp}{a:Addr}{φ:Heap->Prop}{o:HO}{ks:List (List Key×Addr)}(h:i9 K H ks)(ha:H a=some (.ext φ)):i9 K (upd H a o) ks:=fun p hp=>SqT.ext (h p hp) ha
end L2
namespace Mc
open PySem L2 PyProof.Rows
def Tn.good(n:Int):Tn->Prop
 | .n i=>0<=i/\i < n
 | .w x=>x="by"\/x="out"
def yH(n:Int)(c:Int×Int):Prop:=0<=c.1/\c.1 < n/\(c.2=1\/c.2 = -1)
def Rw.good(n:Int)(r:Rw):Prop:=r.l.good n/\r.r.good n/\∀ c∈r.c,yH n c
theorem Tn.good.ok{n:Int}{t:Tn}(h:t.good n):t.ok:=by
 cases t with
 | n i=>trivial
 | w x=>
  rcases h with rfl|rfl
  · exact (show PyData.strOk _ = true by decide +kernel)
  · exact (show PyData.strOk _ = true by decide +kernel)
theorem Rw.good.ok{n:Int}{r:Rw}(h:r.good n):r.ok:=⟨h.1.ok,h.2.1.ok⟩
structure Mach(rs:List Rw)(sg:Nat):Prop where
 len:1<=rs.length
 len2:rs.length<=1000
 sg1:1<=sg
 sg3:sg<=3
 row:∀ r∈rs,r.good rs.length/\r.c.length=sg
def aFL(sg:Nat)(z:List Nat):Prop:=z.length<=1000/\∀ c∈z,vW sg c=true
noncomputable def h7(rs:List Rw)(q:Int):Rw:=rs.getD q.toNat ⟨.n 0,[],.n 0⟩
noncomputable def gO(rs:List Rw)(z:List Nat)(st:Int×Int):Tn×Int:=
 if st.1=0 then ((h7 rs st.2).l,1) else if st.1=(z.length:Int)+1 then ((h7 rs st.2).r,-1) else
  (.n ((h7 rs st.2).c.getD (z.getD (st.1.toNat - 1) 97 - 97) (0,0)).1,((h7 rs st.2).c.getD (z.getD (st.1.toNat - 1) 97 - 97) (0,0)).2)
def uB(rs:List Rw)(z:List Nat)(st:Int×Int):Option (Int×Int):=
 match (gO rs z st).1 with
 | .w _=>none
 | .n q=>some (st.1+(gO rs z st).2,q)
def aAI(rs:List Rw)(z:List Nat)(st:Int×Int):Prop:=0<=st.1/\st.1<=(z.length:Int)+1/\0<=st.2/\st.2 < (rs.length:Int)
theorem o3:∀ (N:Nat) (l:List Nat),l.Nodup->(∀ x∈l,x < N)->l.length<=N
 | 0,l,_,h=>by
  cases l with
  | nil=>exact Nat.le_refl _
  | cons a t=>exact absurd (h a (by simp)) (by omega)
 | N+1,l,hn,h=>by
  have ih:=o3 N (l.erase N) (hn.erase N) (fun x hx=>by
   have:=(hn.mem_erase_iff).mp hx
   have h2:=h x this.2
   omega)
  have:=List.length_erase (a:=N) (l:=l)
  split at this<;>omega
noncomputable def uC(rs:List Rw)(z:List Nat):Nat->List (Int×Int)->Int×Int->List (Int×Int)
 | 0,ps,st=>ps++[st]
 | k+1,ps,st=>if st∈ps then ps++[st] else match uB rs z st with
  | none=>ps++[st]
  | some st'=>uC rs z k (ps++[st]) st'
def aAJ(rs:List Rw)(z:List Nat):Nat:=(z.length+2) * rs.length
def aFM(rs:List Rw)(z:List Nat):List (Int×Int):=uC rs z (aAJ rs z) [] (0,0)
structure Way(rs:List Rw)(z:List Nat)(ps:List (Int×Int))(st:Int×Int)(k:Nat):Prop where
 nd:ps.Nodup
 val:∀ s∈ps++[st],aAI rs z s
 num:ps.length+k=aAJ rs z
 res:uC rs z k ps st=aFM rs z
end Mc
namespace Mc
open PySem L2 PyProof.Rows
noncomputable def one(c:Nat):Str:=⟨#[c]⟩
end Mc
namespace Mc
open PySem L2 PyProof.Rows
section
variable{S O:Type}
inductive Ex(st:S->Option (S⊕O)):Nat->S->O->Prop
 | out {s:S} {o:O} (h:st s=some (.inr o)):Ex st 0 s o
 | go {s s':S} {o:O} {n:Nat} (h:st s=some (.inl s')) (t:Ex st n s' o):Ex st (n+1) s o
inductive Rc(st:S->Option (S⊕O)):Nat->S->S->Prop
 | nil {s:S}:Rc st 0 s s
 | cons {s s' s'':S} {n:Nat} (h:st s=some (.inl s')) (t:Rc st n s' s''):Rc st (n+1) s s''
variable{st:S->Option (S⊕O)}
theorem Rc.ex{k n:Nat}{s s':S}{o:O}(a:Rc st k s s')(b:Ex st n s o):∃ n',n=n'+k/\Ex st n' s' o:=by
 induction a generalizing n with
 | nil=>exact ⟨n,rfl,b⟩
 | cons h t ih=>
  cases b with
  | out h'=>rw[h] at h';cases h'
  | go h' t'=>
   rw[h] at h';cases h'
   obtain ⟨n',e,q⟩:=ih t'
   exact ⟨n',by omega,q⟩
def Res(st:S->Option (S⊕O))(s:S)(r:Option O):Prop:=∀ o,r=some o↔∃ n,Ex st n s o
open Classical in
noncomputable def uD(st:S->Option (S⊕O))(s:S):Option O:=if h:∃ o n,Ex st n s o then some h.choose else none
structure Und2(st:S->Option (S⊕O))(s0:S)(ps:List S)(s:S):Prop where
 nd:ps.Nodup
 back:∀ p∈ps,∃ m,Rc st (m+1) p s
 res:∀ r,Res st s r->Res st s0 r
end
abbrev Th:=Option (Int×Int)
structure Tb where
 f:List Th
 a:List Th
def vX(m:Nat):Th->Prop
 | none=>True
 | some (d,q)=>(d=1\/d = -1)/\0<=q/\q < (m:Int)
structure Tb.good(m:Nat)(t:Tb):Prop where
 lf:t.f.length=m
 la:t.a.length=m
 gf:∀ x∈t.f,vX m x
 ga:∀ x∈t.a,vX m x
def aJW(k n:Int)(s:Int×Int×Int):Int×Int×Int:=(if s.1 < k then s.1 else if s.1=k then (if s.2.1=1 then k else k+n - 1) else s.1+n - 1,s.2.1,s.2.2)
end Mc
namespace Mc
open PySem L2 PyProof.Rows
theorem vY{S:Type}(f:S->Nat)(N:Nat)(l:List S)(hn:l.Nodup)(hf:∀ s∈l,f s < N)(hi:∀ a∈l,∀ b∈l,f a=f b->a=b):l.length<=N:=by
 have h:=o3 N (l.map f) ?_ ?_
 ·rw[List.length_map] at h;exact h
 ·unfold List.Nodup
  rw[List.pairwise_map]
  exact List.Pairwise.imp_of_mem (fun {a b} ha hb hab e=>hab (hi a ha b hb e)) hn
 ·intro x hx
  obtain ⟨s,hs,rfl⟩:=List.mem_map.mp hx
  exact hf s hs
end Mc
namespace L2
open PySem PySem.Spec PyProof.Rows
def Its(z:Str):It:=⟨fun i _=>i < z.cps.size,fun i H x H'=>H'=H/\∃ c,z.cps[i]? = some c/\x=.str ⟨#[c]⟩,fun i _=>i=z.cps.size⟩
theorem qE{P:Program}{w:World}{K:Frag}{tg:Expr}(z:Str)(t:Tok)(T:String)(hT:∀ A:Around,A.handled=none->∀ it,Walks P w A it [it] [it] z.cps.size (SignAt z) fun i h=>h.IsStrIter it T z t i)
  (hself:∀ (A:Around) (it:Addr) (i:Nat) (s:Shared) (Q E:Value->Shared->Prop),s.heap.IsStrIter it T z t i->Q (.ref it) s->wpAny (model P w) A (pyIter (.ref it)) Q E s)
  (hno:["enumerate","zip","dict_itemiterator","dict_reverseitemiterator","odict_iterator","itertools.zip_longest","itertools.pairwise"].contains T=false) (it:Addr):Turn P w K tg (Its z) [it] it (fun i h=>h.IsStrIter it T z t i) where
 mem:=by simp
 obj:=fun i h st b hb=>by
  obtain rfl:b=it:=by simpa using hb
  obtain ⟨o,e,c,d⟩:=st
  exact ⟨o,e,fun v z=>by rw[d] at z;cases z⟩
 keep:=fun i h h' st k=>by
  obtain ⟨o,e,c,d⟩:=st
  exact ⟨o,k it (by simp) o e,c,d⟩
 item:=by
  intro X hP hw hK hc i pins s σ H E I hf st hg
  subst hP hw hK
  obtain ⟨f0,f1,f2,f3,f4,f5⟩:=hf it (by simp)
  refine (hT X.A (I.ok.hd hc) it).item i s _ E hg st fun v h' tk hv st' kp=>?_
  obtain ⟨c,tc,hcc,rfl⟩:=hv
  have I1:Inv X pins σ H {s with heap:=h',toks:=tk}:=I.turned (t':=tk) (it:=it) (fun b o hb e=>kp b o (by simpa using hb) e) f0 f1 f3 f4 f5
  obtain ⟨o,e,cc,d⟩:=id st'
  exact ⟨_,rfl,mR (s:={s with heap:=h',toks:=tk}) e cc d hno ⟨.str ⟨#[c]⟩,H,I1,⟨_,rfl⟩,⟨rfl,c,hcc,rfl⟩,st',fun b hb=>(hf b hb).1⟩⟩
 done:=by
  intro X hP hw hK hc i pins s σ H E I hf st hg
  subst hP hw hK
  obtain ⟨f0,f1,f2,f3,f4,f5⟩:=hf it (by simp)
  have hg:i=z.cps.size:=hg
  subst hg
  exact (hT X.A (I.ok.hd hc) it).done s _ E st fun h' tk kp=>⟨rfl,I.turned (t':=tk) (it:=it) (fun b o hb e=>kp b o (by simpa using hb) e) f0 f1 f3 f4 f5⟩
 self:=fun A i s Q E st h=>hself A it i s Q E st h
def aG3(te:TE):TI:=fun σ H R=>te σ H fun x H1=>∃ z,x=.str z/\R (Its z) H1
theorem vZ{X:Cx}{tg l:Expr}{tl:TE}(hl:PE X l tl):PI X tg l (aG3 tl):=by
 intro pins s σ H R I h
 refine thn (hl pins s σ H _ I h) fun v s1 zz0=>?_
 obtain ⟨x,H1,I1,r1,q1⟩:=zz0
 obtain ⟨z,e,q⟩:=q1
 subst e
 obtain ⟨t,rfl⟩:=r1
 refine wpAny_pyIter_strU ?_
 have I2:Inv X pins σ H1 {s1 with heap:=s1.heap.push {cls:=.type (strIterType z),data:=.fields #[.str z t,.int 0 0]}}:=I1.kept (t':=s1.toks) fun b o e=>Heap.get?_push_of_some _ e
 have st:(s1.heap.push {cls:=.type (strIterType z),data:=.fields #[.str z t,.int 0 0]}).IsStrIter s1.heap.objs.size (strIterType z) z t 0:=⟨_,Heap.get?_push_size _ rfl,rfl,rfl⟩
 have fin:∀ b∈[s1.heap.objs.size],eI X pins H1 b:=fun b hb=>by
  obtain rfl:=List.mem_singleton.mp hb
  exact I1.fpOk (Nat.le_refl _) (I1.hok.fresh (Nat.le_refl _))
 by_cases ha:(z.cps.all fun x=>decide (x < 128))=true
 ·have eT:strIterType z="str_ascii_iterator":=by unfold strIterType;rw[if_pos ha]
  rw[eT] at st I2 ⊢
  exact ⟨s1.heap.objs.size,[s1.heap.objs.size],_,_,H1,rfl,I2,qE z t "str_ascii_iterator" (fun A hA it=>Walks.strAscii hA it z t) (fun A it i s Q E st h=>wpAny_pyIter_striter_ascii st h) (by decide) _,st,fin,q⟩
 ·have eT:strIterType z="str_iterator":=by unfold strIterType;rw[if_neg ha]
  rw[eT] at st I2 ⊢
  exact ⟨s1.heap.objs.size,[s1.heap.objs.size],_,_,H1,rfl,I2,qE z t "str_iterator" (fun A hA it=>Walks.strWide hA it z t) (fun A it i s Q E st h=>wpAny_pyIter_striter_wide st h) (by decide) _,st,fin,q⟩
theorem lM:∀ {xs:List V} {ys:List Value},xs.length=ys.length->(∀ (i:Nat) x y,xs[i]? = some x->ys[i]? = some y->aR x y)->aV xs ys
 | [],[],_,_=>.nil
 | [],_::_,h,_=>by simp at h
 | _::_,[],h,_=>by simp at h
 | x::xs,y::ys,h,f=>.cons (f 0 x y rfl rfl) (lM (by simpa using h) fun i a b h1 h2=>f (i+1) a b (by simpa using h1) (by simpa using h2))
end L2
namespace L2
open PySem PySem.Spec PyProof.Rows
structure InK(env:Env)(s₀:Shared)(m cm:Str->Option Value)(s:Shared):Prop where
 ic:InCall s₀ env.locals m s
 cell:∀ n c,env.cells.lookup n=some c->s.heap.IsCell c (cm n)
 inj:∀ n n' c,env.cells.lookup n=some c->env.cells.lookup n'=some c->n=n'
 ne:∀ n c,env.cells.lookup n=some c->c≠env.locals
 up:∀ n c,env.kindOf n=some .cell->env.cells.lookup n=some c->env.locals < c
structure ClAt(h:Heap)(scope:Scope)(cl:List (Str×Addr))(cm:Str->Option Value):Prop where
 cell:∀ n c,cl.lookup n=some c->h.IsCell c (cm n)
 inj:∀ n n' c,cl.lookup n=some c->cl.lookup n'=some c->n=n'
 off:∀ y∈scope.names,y.2=.cell->cl.lookup y.1=none
end L2
namespace L2
open PySem PySem.Spec PyProof.Rows
def FnO(f:Addr)(o:Obj):HO:=.ext fun h=>h.get? f=some o
def yI(c:Addr)(o:Obj)(v:V):HO:=.frz o (.ext fun h=>∃ u,aR v u/\h.IsCell c (some u))
section
variable{P:Program}{w:World}{H:Hp}{h:Heap}
theorem FnO.ok{f:Addr}{o:Obj}(e:h.get? f=some o):bW P w H h f (FnO f o):=⟨e,⟨o,e⟩,fun h1 h2 q k=>k o q⟩
theorem yI.ok{c:Addr}{o:Obj}{v:V}{u:Value}(r:aR v u)(e:h.get? c=some o)(hd:o.data=.cell (some u)):bW P w H h c (yI c o v):=
 ⟨e,⟨u,r,o,e,hd⟩,⟨o,e⟩,fun h1 h2 ⟨u,r,o,ho,hd⟩ k=>⟨u,r,o,k o ho,hd⟩⟩
end
structure CloScope(N ps fr:List Str)(sc:Scope):Prop where
 kind:sc.kind=.function
 co:sc.isCoroutine=false
 gen:sc.isGenerator=false
 nd:N.Nodup
 pre:N.take (ps++fr).length=ps++fr
 par:∀ x∈ps,sc.names.lookup x=some .local\/sc.names.lookup x=some .cell
 cap:∀ x∈fr,sc.names.lookup x=some .free
 only:∀ y∈sc.names,y.2=.free->y.1∈fr
 off:∀ y∈sc.names,y.2=.cell->y.1∉fr
structure CapAt(H:Hp)(fr:List Str)(cl:List (Str×Addr))(vs:List V):Prop where
 len:vs.length=fr.length
 only:∀ n c,cl.lookup n=some c->n∈fr
 inj:∀ n n' c,cl.lookup n=some c->cl.lookup n'=some c->n=n'
 at':∀ (i:Nat) x v,fr[i]? = some x->vs[i]? = some v->∃ c o,cl.lookup x=some c/\H c=some (yI c o v)
noncomputable def aBF(fr:List Str)(cl:List (Str×Addr)):List Addr:=fr.filterMap fun x=>cl.lookup x
theorem CapAt.same{H H':Hp}{fr:List Str}{cl:List (Str×Addr)}{vs:List V}(a:CapAt H fr cl vs)(s:aF H H'):CapAt H' fr cl vs:=⟨a.len,a.only,a.inj,fun i x v h1 h2=>let ⟨c,o,e,q⟩:=a.at' i x v h1 h2;⟨c,o,e,s _ _ q⟩⟩
end L2
namespace L2
open PySem PySem.Spec PyProof.Rows
structure ClSt where
 name:Str
 qual:Str
 params:Arguments
 body:FuncBody
 scope:Scope
noncomputable def ClSt.fd(S:ClSt)(cl:List (Str×Addr))(doc pm:Value)(c:Addr)(ct:Value):FuncData:=
 {name:=S.name,qualname:=S.qual,params:=S.params,body:=S.body,scope:=S.scope,globals:=mainGlobals,closure:=cl,defaults:=.none,kwdefaults:=.none,doc:=doc,pyModule:=pm,annotations:=none,code:=.ref c,closureTuple:=ct,builtins:=builtinsNs}
abbrev ClSt.obj(S:ClSt)(cl:List (Str×Addr))(doc pm:Value)(c:Addr)(ct:Value):Obj:={cls:=.type "function",data:=.func (S.fd cl doc pm c ct)}
end L2
namespace L2
open PySem PySem.Spec PyProof.Rows
structure ClOf(cells:List (Str×Addr))(sc:Scope)(cl:List (Str×Addr)):Prop where
 of:∀ x c,cl.lookup x=some c->cells.lookup x=some c
 all:∀ x∈sc.names,x.2=.free->∃ c,cl.lookup x.1=some c
 only:∀ x c,cl.lookup x=some c->(x,NameKind.free)∈sc.names
structure Tb(mg:Str->Option Value)(base:Heap)(c0 P0:Addr):Prop where
 hd:PySem.W.CodeHd base c0 P0
 bt:∃ bm ob,mg "__builtins__"=some (.ref bm)/\bm≠builtinsNs/\base.get? bm=some ob/\ob.cls=.type "module"/\ob.dict=some builtinsNs/\ob.data=.plain
end L2
namespace L2
open PySem PySem.Spec PyProof.Rows
abbrev Cv:=List (Addr×Obj×V)
noncomputable def aG4(cv:Cv):List Addr:=cv.map (·.1)
structure PubRel(X:Cx)(σ:St)(H:Hp)(js:List Nat)(cv:Cv):Prop where
 at':∀ b o v,cv.lookup b=some (o,v)->∃ x j,j∈js/\X.N[j]? = some x/\X.env.cells.lookup x=some b/\σ[j]? = some (some v)
 all:∀ j∈js,∃ x c o v,X.N[j]? = some x/\X.env.cells.lookup x=some c/\σ[j]? = some (some v)/\cv.lookup c=some (o,v)
 free:∀ b∈aG4 cv,H b=none
 inj:∀ x y c,X.env.cells.lookup x=some c->X.env.cells.lookup y=some c->x=y
end L2
namespace L2
open PySem PySem.Spec PyProof.Rows
end L2
namespace Fl
open PySem L2 PyProof.Rows
mutual
noncomputable def dZ:PyData->Bool
 | .none=>true
 | .int _=>true
 | .str x=>PyData.strOk x
 | .tuple xs=>dJ xs
 | _=>false
noncomputable def dJ:List PyData->Bool
 | []=>true
 | x::t=>dZ x && dJ t
end
mutual
noncomputable def eO(w:World):PyData->Int
 | .none=>reduceHash 0xFCA86420
 | .int i=>hashInt i
 | .str x=>hashStr w x
 | .tuple xs=>reduceHash (Builtin.Tuple.tupleHashOf (iF w xs))
 | _=>0
noncomputable def iF(w:World):List PyData->List Int
 | []=>[]
 | x::t=>eO w x::iF w t
end
mutual
noncomputable def dU:PyData->Nat
 | .tuple xs=>iK xs+1
 | _=>1
noncomputable def iK:List PyData->Nat
 | []=>0
 | x::t=>dU x+iK t
end
mutual
theorem lN:∀ {d:PyData},dZ d=true->d.canLay0=true
 | .none,_=>rfl
 | .int _,_=>rfl
 | .str x,h=>h
 | .tuple xs,h=>by
  have h':dJ xs=true:=h
  exact qF h'
theorem qF:∀ {xs:List PyData},dJ xs=true->PyData.canLayAll0 xs=true
 | [],_=>rfl
 | x::t,h=>by
  have h':(dZ x && dJ t)=true:=h
  rw[Bool.and_eq_true] at h'
  show (x.canLay0 && PyData.canLayAll0 t)=true
  rw[lN h'.1,qF h'.2];rfl
end
mutual
theorem n8:∀ {d e:PyData},dZ d=true->dZ e=true->(PyData.eqv d e=true↔d=e)
 | .none,e,_,he=>by cases e<;>simp[PyData.eqv]<;>cases he
 | .int i,e,_,he=>by cases e<;>simp[PyData.eqv]<;>cases he
 | .str x,e,_,he=>by cases e<;>simp[PyData.eqv]<;>cases he
 | .tuple xs,e,hd,he=>by
  have hd':dJ xs=true:=hd
  cases e with
  | tuple ys=>
   have he':dJ ys=true:=he
   have:=qG hd' he'
   show PyData.eqvAll xs ys=true↔_
   rw[this]
   exact ⟨fun z=>by rw[z],fun z=>by cases z;rfl⟩
  | _=>simp[PyData.eqv]<;>cases he
theorem qG:∀ {xs ys:List PyData},dJ xs=true->dJ ys=true->(PyData.eqvAll xs ys=true↔xs=ys)
 | [],ys,_,_=>by cases ys<;>simp[PyData.eqvAll]
 | x::t,ys,hx,hy=>by
  have hx':(dZ x && dJ t)=true:=hx
  rw[Bool.and_eq_true] at hx'
  cases ys with
  | nil=>simp[PyData.eqvAll]
  | cons y u=>
   have hy':(dZ y && dJ u)=true:=hy
   rw[Bool.and_eq_true] at hy'
   rw[PyData.eqvAll,Bool.and_eq_true,n8 hx'.1 hy'.1,qG hx'.2 hy'.2]
   exact ⟨fun ⟨a,b⟩=>by rw[a,b],fun z=>by cases z;exact ⟨rfl,rfl⟩⟩
end
noncomputable instance decPyData:DecidableEq PyData:=fun a b=>Classical.propDecidable (a=b)
theorem aBG{d e:PyData}(hd:dZ d=true)(he:dZ e=true):PyData.eqv d e=decide (d=e):=by
 by_cases h:d=e
 ·rw[decide_eq_true h,(n8 hd he).mpr h]
 ·rw[decide_eq_false h]
  cases q:PyData.eqv d e with
  | false=>rfl
  | true=>exact absurd ((n8 hd he).mp q) h
end Fl
namespace Fl
open PySem L2 PyProof.Rows
theorem uE(xs:List PyData):dU (.tuple xs)=iK xs+1:=by rw[dU]
theorem o4(A:Around):A.in1.units=A.units+1:=rfl
def gP(prog:Program)(w:World)(E:Value->Shared->Prop)(d:PyData):Prop:=∀ (v:Value) (as:List Addr) (A:Around) (s:Shared) (Q:Int->Shared->Prop),dZ d=true->Reads s.heap v d as->A.units+d.depth < cLine->Q (eO w d) {s with toks:=s.toks+dU d}->
 wpAny (model prog w) A (pyHash v) Q E s
theorem aDT{prog:Program}{w:World}{E:Value->Shared->Prop}:∀ (xs:List PyData) (ih:∀ x∈xs,gP prog w E x) (vs:List Value) (as:List Addr) (A:Around) (s:Shared) (b:Array Int) (Q:Array Int->Shared->Prop),dJ xs=true->ReadsAll s.heap vs xs as->A.units+PyData.depthAll xs < cLine->
  (∀ b',b'.toList=b.toList++iF w xs->Q b' {s with toks:=s.toks+iK xs})->
  wpAny (model prog w) A (forIn vs b fun x r=>do let h <-pyHash x;pure PUnit.unit;pure (ForInStep.yield (r.push h))) Q E s:=by
 intro xs
 induction xs with
 | nil=>
  intro ih vs as A s b Q _ x _ h
  cases x
  exact wpAny_pure (h b (by simp[iF]))
 | cons k xs ih0=>
  intro ih vs as A s b Q hk x hu h
  cases x with
  | @cons v vs _ _ as bs x1 x2=>
   have hk':(dZ k && dJ xs)=true:=hk
   rw[Bool.and_eq_true] at hk'
   have hu':A.units+max k.depth (PyData.depthAll xs) < cLine:=hu
   rw[List.forIn_cons]
   refine wpAny_bind (wpAny_bind (ih k List.mem_cons_self _ _ A s _ hk'.1 x1 (by omega) ?_))
   refine wpAny_bind (wpAny_pure (wpAny_pure ?_))
   refine ih0 (fun x hx=>ih x (List.mem_cons_of_mem _ hx)) _ _ A {s with toks:=s.toks+dU k} _ Q hk'.2 x2 (by omega) fun b' hb=>?_
   have q:=h b' (by rw[hb];simp[iF])
   rw[show iK (k::xs)=dU k+iK xs by rw[iK],<-Nat.add_assoc] at q
   exact q
end Fl
namespace Fl
open PySem L2 PyProof.Rows
theorem o5(w:World)(i:Int):eO w (.int i)=hashInt i:=by rw[eO]
theorem o6(w:World)(i:Str):eO w (.str i)=hashStr w i:=by rw[eO]
theorem v4(w:World)(xs:List PyData):eO w (.tuple xs)=reduceHash (Builtin.Tuple.tupleHashOf (iF w xs)):=by rw[eO]
theorem uF(i:Int):dU (.int i)=1:=by unfold dU;rfl
theorem uG(i:Str):dU (.str i)=1:=by unfold dU;rfl
theorem yJ{prog:Program}{w:World}{E:Value->Shared->Prop}(i:Int):gP prog w E (.int i):=fun v as A s Q _ r _ h=>by
 rw[o5,uF] at h
 cases r
 exact wpAny_pyHash_int h
theorem yK{prog:Program}{w:World}{E:Value->Shared->Prop}(i:Str):gP prog w E (.str i):=fun v as A s Q _ r _ h=>by
 rw[o6,uG] at h
 cases r
 exact wpAny_pyHash_str h
theorem yL{prog:Program}{w:World}{E:Value->Shared->Prop}(xs:List PyData)(ih:∀ x∈xs,gP prog w E x):gP prog w E (.tuple xs):=fun v as A s Q hk r hu h=>by
 rw[v4,uE] at h
 cases r with
 | @tuple a o vs n _ as h1 h2 h3 h4=>
  have hk':dJ xs=true:=hk
  have hu':A.units+(PyData.depthAll xs+1) < cLine:=hu
  refine PySem.W.pyHash_slot (T:="tuple") ⟨o,h1,h2⟩ F.slot_tuple_hash F.entry_tuple_hash (F.args_tuple_hash_1 _) (beq_builtin_none _) (.inr (by omega)) ?_
  show wpAny _ _ (Builtin.Tuple.tupleItemsOf (.ref a) >>= _) _ _ s
  refine wpAny_bind (wpAny_tupleItemsOf h1 h3 ?_)
  refine wpAny_bind ?_
  rw[<-Array.forIn_toList]
  refine aDT xs ih vs.toList as A.in1 s #[] _ hk' h4 (by rw[o4];omega) fun b hb=>?_
  show wpAny _ _ (retInt (Builtin.Tuple.tupleHashOf b.toList)) _ _ _
  rw[hb]
  exact wpAny_bind (wpAny_mkInt (wpAny_pure ⟨_,_,rfl,h⟩))
end Fl
namespace Fl
open PySem L2 PyProof.Rows
theorem uH(w:World):eO w .none=reduceHash 0xFCA86420:=by rw[eO]
theorem r9:dU .none=1:=by unfold dU;rfl
theorem yM{prog:Program}{w:World}{E:Value->Shared->Prop}:gP prog w E .none:=fun v as A s Q _ r hu h=>by
 rw[uH,r9] at h
 generalize hg:reduceHash 0xFCA86420=g at h
 cases r
 refine PySem.W.pyHash_slot (T:="NoneType") rfl F.slot_NoneType_hash F.entry_NoneType_hash (F.args_NoneType_hash_1 _) (beq_builtin_none _) (.inr (by omega)) (wpAny_bind (wpAny_pure (wpAny_bind (wpAny_mkInt (wpAny_pure ⟨0xFCA86420,_,rfl,?_⟩)))))
 rw[hg]
 exact h
end Fl
namespace Fl
open PySem L2 PyProof.Rows
theorem aDU{prog:Program}{w:World}{E:Value->Shared->Prop}:∀ (n:Nat) (d:PyData),sizeOf d<=n->gP prog w E d:=by
 intro n
 induction n with
 | zero=>intro d h;cases d<;>simp at h
 | succ n ih=>
  intro d h
  cases d with
  | none=>exact yM
  | int i=>exact yJ i
  | str x=>exact yK x
  | tuple xs=>
   refine yL xs fun x hx=>ih x ?_
   have:=List.sizeOf_lt_of_mem hx
   simp only[PyData.tuple.sizeOf_spec] at h
   omega
  | bool b=>exact fun v as A s Q hk=>nomatch hk
  | list xs=>exact fun v as A s Q hk=>nomatch hk
  | dict xs=>exact fun v as A s Q hk=>nomatch hk
theorem aDV{prog:Program}{w:World}{E:Value->Shared->Prop}(d:PyData):gP prog w E d:=aDU (sizeOf d) d (Nat.le_refl _)
theorem aBH{M:Model}{A:Around}{E:Value->Shared->Prop}{s:Shared}:∀ (n:Nat) (d:PyData) (v:Value) (as:List Addr) (Q:Bool->Shared->Prop),dZ d=true->Reads s.heap v d as->d.depth<=n->Q true s->wpAny M A (eqIsQuiet n v) Q E s:=by
 intro n
 induction n with
 | zero=>
  intro d v as Q hk r hd h
  cases d with
  | none=>cases r;rw[eqIsQuiet_byValue _ rfl];exact wpAny_pure h
  | int i=>cases r;rw[eqIsQuiet_byValue _ rfl];exact wpAny_pure h
  | str x=>cases r;rw[eqIsQuiet_byValue _ rfl];exact wpAny_pure h
  | tuple xs=>
   have hd':PyData.depthAll xs+1<=0:=hd
   omega
  | bool b=>exact nomatch hk
  | list xs=>exact nomatch hk
  | dict xs=>exact nomatch hk
 | succ n ih=>
  intro d v as Q hk r hd h
  cases d with
  | none=>cases r;rw[eqIsQuiet_byValue _ rfl];exact wpAny_pure h
  | int i=>cases r;rw[eqIsQuiet_byValue _ rfl];exact wpAny_pure h
  | str x=>cases r;rw[eqIsQuiet_byValue _ rfl];exact wpAny_pure h
  | bool b=>exact nomatch hk
  | list xs=>exact nomatch hk
  | dict xs=>exact nomatch hk
  | tuple xs=>
   cases r with
   | @tuple a o vs m _ as h1 h2 h3 h4=>
    have hk':dJ xs=true:=hk
    have hd':PyData.depthAll xs+1<=n+1:=hd
    have hT:s.TypeIs (.ref a) "tuple":=⟨o,h1,h2⟩
    unfold eqIsQuiet
    refine wpAny_bind (wpAny_specialOf hT F.slot_tuple_eq.lookup ?_)
    show wpAny _ _ (isInstance (.ref a) (.type "tuple") >>= _) _ _ s
    refine wpAny_bind (wpAny_isInstance hT isSubtype_tuple_tuple ?_)
    simp only[Bool.not_true,Bool.false_eq_true,if_false]
    refine wpAny_bind (wpAny_seqItems h1 h3 ?_)
    refine wpAny_bind ?_
    show wpAny _ _ (forIn vs _ _) _ _ s
    rw[<-Array.forIn_toList]
    refine wpAny_forIn_list _ (fun rest r s'=>r.1=none/\s'=s/\∃ ys bs,dJ ys=true/\PyData.depthAll ys<=n/\ReadsAll s.heap rest ys bs) _ ?_ ?_ _ _ ⟨rfl,rfl,xs,_,hk',by omega,h4⟩
    ·rintro v rest r s' ⟨hr,rfl,ys,bs,hy,hdy,ry⟩
     cases ry with
     | @cons _ _ y yt cs ds r1 r2=>
      have hy':(dZ y && dJ yt)=true:=hy
      rw[Bool.and_eq_true] at hy'
      have hdy':max y.depth (PyData.depthAll yt)<=n:=hdy
      refine wpAny_bind (ih y v _ _ hy'.1 r1 (by omega) ?_)
      simp only[Bool.not_true,Bool.false_eq_true,if_false]
      exact wpAny_pure ⟨rfl,rfl,yt,_,hy'.2,by omega,r2⟩
    ·rintro ⟨r1,r2⟩ s' ⟨hr,rfl,_⟩
     simp only at hr
     subst hr
     exact wpAny_pure h
def aG5(h:Heap)(d:PyData)(a:Addr):Prop:=dZ d=true/\d.depth<=8/\∃ as,Reads h (.ref a) d as
theorem uI{h h':Heap}{a:Addr}{o:Obj}{es:Array DictEntry}{ep:Nat}(ho:h.get? a=some o)(hd:o.data=.dict es ep)(hs:Heap.SameBut a h h'){v:Value}{d:PyData}{as:List Addr}(hk:dZ d=true)(r:Reads h v d as):Reads h' v d as:=by
 refine Reads.rec (motive_1:=fun v d as _=>dZ d=true->Reads h' v d as) (motive_2:=fun vs xs as _=>dJ xs=true->ReadsAll h' vs xs as) ?_ ?_ ?_ ?_ ?_ ?_ ?_ ?_ ?_ r hk
 ·exact fun _=>.none
 ·intro b hk;cases hk
 ·exact fun i t _=>.int i t
 ·exact fun i t _=>.str i t
 ·intro b o' vs n xs as h1 h2 h3 h4 ih hk;cases hk
 ·intro b o' vs n xs as h1 h2 h3 h4 ih hk
  exact .tuple ((hs.2 b (fun z=>by subst z;rw[ho] at h1;cases h1;rw[hd] at h3;cases h3)).trans h1) h2 h3 (ih hk)
 ·intro b o' es' n kvs as bs h1 h2 h3 h4 h5 i1 i2 hk;cases hk
 ·exact fun _=>.nil
 ·intro v vs d ds as bs r1 r2 i1 i2 hk
  exact .cons (i1 ((Bool.and_eq_true ..).mp hk).1) (i2 ((Bool.and_eq_true ..).mp hk).2)
noncomputable def eQ(prog:Program)(w:World):HeapKind prog w PyData where
 is:=aG5
 hash:=eO w
 draws:=dU
 room:=fun A=>A.units+9 < cLine
 inj:=fun {h a x y} hx hy=>by
  obtain ⟨k1,_,as,r1⟩:=hx
  obtain ⟨k2,_,bs,r2⟩:=hy
  exact PySem.SeqAt.Reads.unique x y _ _ _ (lN k1) r1 r2
 keeps:=fun {h h' k a d o es ep} hx ho hd hs=>by
  obtain ⟨k1,k2,as,r1⟩:=hx
  exact ⟨k1,k2,as,uI ho hd hs k1 r1⟩
 pyHash:=fun {A E s k a Q} hu hk h=>by
  obtain ⟨k1,k2,as,r1⟩:=hk
  exact aDV k _ as A s Q k1 r1 (by omega) h
 eqBool:=fun {A E s x y a b Q} hu hx hy h=>by
  obtain ⟨k1,k2,as,r1⟩:=hx
  obtain ⟨l1,l2,bs,r2⟩:=hy
  refine PySem.SeqAt.eqAt_reads x y A s _ _ as bs r1 r2 (lN k1) (lN l1) ?_ prog w E Q ?_
  ·have:min x.depth y.depth<=8:=Nat.le_trans (Nat.min_le_left _ _) k2
   omega
  ·rw[aBG k1 l1];exact h
 quiet:=fun {A E s k a Q} hk h=>by
  obtain ⟨k1,k2,as,r1⟩:=hk
  exact aBH 8 k _ as Q k1 r1 k2 h
end Fl
namespace Fl
open PySem L2 PyProof.Rows
abbrev Ent:=PyData×V×V
def jQ(w:World)(p:Ent)(en:DictEntry):Prop:=en.hash=eO w p.1/\aR p.2.1 en.key/\aR p.2.2 en.val
def bL(w:World)(a:Addr)(es:List Ent)(ep:Nat):HO:=.ext fun h=>(a == sysModules)=false/\∃ o ar,h.get? a=some o/\o.ExactDict/\o.data=.dict ar ep/\Paired (jQ w) es ar.toList
theorem eY{P:Program}{w:World}{H:Hp}{h:Heap}{a:Addr}{es:List Ent}{ep:Nat}(hd:(a == sysModules)=false)(hh:∃ o ar,h.get? a=some o/\o.ExactDict/\o.data=.dict ar ep/\Paired (jQ w) es ar.toList):bW P w H h a (bL w a es ep):=
 ⟨⟨hd,hh⟩,let ⟨o,_,e,_⟩:=hh;⟨o,e⟩,fun h1 h2 ⟨q,o,es,e,r⟩ kp=>⟨q,o,es,kp _ e,r⟩⟩
noncomputable def f8:PyData->Bool
 | .tuple xs=>dZ (.tuple xs) && decide ((PyData.tuple xs).depth<=8)
 | _=>false
noncomputable def jR:PyData->Bool
 | .int _=>true
 | .str _=>true
 | _=>false
def bM(k:PyData)(ks:List PyData):Bool:=(f8 k && ks.all f8) || (jR k && ks.all jR)
theorem aBI{d:PyData}(h:f8 d=true):∃ xs,d=.tuple xs/\dZ d=true/\d.depth<=8:=by
 cases d with
 | tuple xs=>
  have h':(dZ (.tuple xs) && decide ((PyData.tuple xs).depth<=8))=true:=h
  rw[Bool.and_eq_true] at h'
  exact ⟨xs,rfl,h'.1,of_decide_eq_true h'.2⟩
 | _=>cases h
def fW:Key->PyData
 | .inl i=>.int i
 | .inr x=>.str x
theorem sM{d:PyData}(h:jR d=true):∃ k,d=fW k:=by
 cases d with
 | int i=>exact ⟨.inl i,rfl⟩
 | str i=>exact ⟨.inr i,rfl⟩
 | _=>cases h
theorem o7{a b:Key}(h:fW a=fW b):a=b:=by
 cases a<;>cases b<;>cases h<;>rfl
theorem sN{K:Frag}{H:Hp}{v:V}{k:Key}(h:DatV K H v (fW k)):v=kV k:=by
 cases k with
 | inl i=>exact h.int_of
 | inr x=>exact h.str_of
theorem qH{P:Program}{w:World}(k:Key):eO w (fW k)=(cP P w).hash k:=by
 cases k with
 | inl i=>exact o5 w i
 | inr x=>exact o6 w x
def n9:Ent->(PyData×Addr×Value)->Prop:=fun e x=>e.1=x.1/\e.2.1=.ref x.2.1/\aR e.2.2 x.2.2
def oA:Ent->(Key×Value)->Prop:=fun e x=>e.1=fW x.1/\e.2.1=kV x.1/\aR e.2.2 x.2
theorem v5{P:Program}{w:World}:∀ {es:List Ent} {ens:List DictEntry},Paired (jQ w) es ens->(∀ e∈es,∃ b,e.2.1=.ref b)->∃ xs,ens=xs.map (entryOfKey (eQ P w))/\Paired n9 es xs
 | _,_,.nil,_=>⟨[],rfl,.nil⟩
 | e::es,en::ens,.cons h t,hb=>by
  obtain ⟨xs,h1,h2⟩:=v5 (P:=P) t fun e he=>hb e (List.mem_cons_of_mem _ he)
  obtain ⟨b,hb'⟩:=hb e List.mem_cons_self
  obtain ⟨q1,q2,q3⟩:=h
  rw[hb'] at q2
  obtain ⟨hash,key,val⟩:=en
  have q2':key=Value.ref b:=q2
  have q1':hash=eO w e.1:=q1
  subst q2' q1'
  exact ⟨(e.1,b,val)::xs,by rw[List.map_cons,h1];rfl,.cons ⟨rfl,hb',q3⟩ h2⟩
theorem jS{P:Program}{w:World}:∀ {es:List Ent} {xs:List (PyData×Addr×Value)},Paired n9 es xs->Paired (jQ w) es (xs.map (entryOfKey (eQ P w)))
 | _,_,.nil=>.nil
 | _,_,.cons h t=>.cons ⟨by rw[h.1];rfl,by rw[h.2.1];rfl,h.2.2⟩ (jS t)
theorem v6{P:Program}{w:World}:∀ {es:List Ent} {ens:List DictEntry},Paired (jQ w) es ens->(∀ e∈es,∃ k,e.1=fW k/\e.2.1=kV k)->∃ xs,Pairs (cP P w) ens xs/\Paired oA es xs/\∀ en∈ens,∃ k,(cP P w).is k en.key=true/\en.hash=(cP P w).hash k
 | _,_,.nil,_=>⟨[],.nil,.nil,fun _ h=>by cases h⟩
 | e::es,en::ens,.cons h t,hb=>by
  obtain ⟨xs,h1,h2,h3⟩:=v6 (P:=P) t fun e he=>hb e (List.mem_cons_of_mem _ he)
  obtain ⟨k,hk1,hk2⟩:=hb e List.mem_cons_self
  obtain ⟨q1,q2,q3⟩:=h
  have hi:(cP P w).is k en.key=true:=aAH (by rw[<-hk2];exact q2)
  refine ⟨(k,en.val)::xs,.cons hi rfl h1,.cons ⟨hk1,hk2,q3⟩ h2,fun en' hen=>?_⟩
  rcases List.mem_cons.mp hen with z|z
  · subst z; exact ⟨k, hi, by rw [q1, hk1, qH (P := P)]⟩
  · exact h3 en' z
theorem aBJ{P:Program}{w:World}{k:Key}{v:Value}(h:(cP P w).is k v=true):aR (kV k) v:=by
 rcases keyIs_shape h with ⟨i,t,rfl,rfl⟩|⟨x,t,rfl,rfl⟩
 · exact ⟨t, rfl⟩
 · exact ⟨t, rfl⟩
theorem jT{P:Program}{w:World}:∀ {es:List Ent} {xs:List (Key×Value)} {ens:List DictEntry},Paired oA es xs->Pairs (cP P w) ens xs->(∀ en∈ens,∃ k,(cP P w).is k en.key=true/\en.hash=(cP P w).hash k)->Paired (jQ w) es ens
 | _,_,_,.nil,.nil,_=>.nil
 | _,_,_,.cons h t,.cons p1 p2 ps,hk=>by
  obtain ⟨k,hk1,hk2⟩:=hk _ List.mem_cons_self
  obtain rfl:=(cP P w).inj _ _ _ hk1 p1
  refine .cons ⟨by rw[hk2,h.1,qH (P:=P)],by rw[h.2.1];exact aBJ hk1,by rw[p2];exact h.2.2⟩ (jT t ps fun en he=>hk en (List.mem_cons_of_mem _ he))
noncomputable def atE(es:List Ent)(k:PyData):Option V:=(es.find? fun e=>decide (e.1=k)).map (·.2.2)
noncomputable def f9(es:List Ent)(k:PyData)(kv v:V):List Ent:=if (atE es k).isSome then es.map (fun e=>if e.1=k then (e.1,e.2.1,v) else e) else es++[(k,kv,v)]
theorem kP{k:PyData}:∀ {es:List Ent} {xs:List (PyData×Addr×Value)},Paired n9 es xs->gX (atE es k) ((atKey xs k).map (·.2))
 | _,_,.nil=>trivial
 | e::es,x::xs,.cons h t=>by
  have ih:=kP (k:=k) t
  unfold atE atKey at ih ⊢
  rw[List.find?_cons,List.find?_cons,h.1]
  by_cases q:x.1=k
  · rw [decide_eq_true q]; exact h.2.2
  · rw [decide_eq_false q]; exact ih
theorem kQ{k:Key}:∀ {es:List Ent} {xs:List (Key×Value)},Paired oA es xs->gX (atE es (fW k)) (valueAt xs k)
 | _,_,.nil=>trivial
 | e::es,x::xs,.cons h t=>by
  have ih:=kQ (k:=k) t
  unfold atE valueAt at ih ⊢
  rw[List.find?_cons,List.find?_cons,h.1]
  by_cases q:x.1=k
  · rw [decide_eq_true q, decide_eq_true (by rw [q])]; exact h.2.2
  · rw [decide_eq_false q, decide_eq_false (fun z => q (o7 z))]; exact ih
theorem fO{o:Option V}{u:Option Value}(h:gX o u):o.isSome=u.isSome:=by
 cases o<;>cases u<;>first|rfl|exact h.elim
theorem jU{α β:Type}{f:α->β->Prop}{g:α->α}{k:β->β}(hg:∀ a b,f a b->f (g a) (k b)):∀ {xs:List α} {ys:List β},Paired f xs ys->Paired f (xs.map g) (ys.map k)
 | _,_,.nil=>.nil
 | _,_,.cons h t=>.cons (hg _ _ h) (jU hg t)
theorem jV{α β:Type}{f:α->β->Prop}{a:α}{b:β}(h:f a b):∀ {xs:List α} {ys:List β},Paired f xs ys->Paired f (xs++[a]) (ys++[b])
 | _,_,.nil=>.cons h .nil
 | _,_,.cons q t=>.cons q (jV h t)
theorem uJ{k:PyData}{b:Addr}{v:V}{u:Value}{es:List Ent}{xs:List (PyData×Addr×Value)}(r:aR v u)(h:Paired n9 es xs):Paired n9 (f9 es k (.ref b) v) (storedH xs k b u):=by
 have q:=fO (kP (k:=k) h)
 rw[Option.isSome_map] at q
 unfold f9 storedH
 rw[q]
 cases (atKey xs k).isSome with
 | true=>
  rw[if_pos rfl,if_pos rfl]
  refine jU (fun e x hx=>?_) h
  unfold putAt
  rw[hx.1]
  by_cases z:x.1=k
  · rw [if_pos z, if_pos z]; exact ⟨rfl, hx.2.1, r⟩
  · rw [if_neg z, if_neg z]; exact hx
 | false=>rw[if_neg (by decide),if_neg (by decide)];exact jV ⟨rfl,rfl,r⟩ h
theorem aAK{k:Key}:∀ {xs:List (Key×Value)},xs.any (fun kv=>decide (kv.1=k))=(valueAt xs k).isSome
 | []=>rfl
 | x::xs=>by
  have ih:=aAK (k:=k) (xs:=xs)
  unfold valueAt at ih ⊢
  rw[List.any_cons,List.find?_cons]
  by_cases q:x.1=k
  · rw [decide_eq_true q]; rfl
  · rw [decide_eq_false q, Bool.false_or]; exact ih
theorem uK{k:Key}{v:V}{u:Value}{es:List Ent}{xs:List (Key×Value)}(r:aR v u)(h:Paired oA es xs):Paired oA (f9 es (fW k) (kV k) v) (stored xs k u):=by
 have q:=fO (kQ (k:=k) h)
 unfold f9 stored
 rw[q,aAK]
 cases (valueAt xs k).isSome with
 | true=>
  rw[if_pos rfl,if_pos rfl]
  refine jU (fun e x hx=>?_) h
  by_cases z:x.1=k
  · rw [if_pos z, if_pos (by rw [hx.1, z])]; exact ⟨by rw [hx.1], hx.2.1, r⟩
  · rw [if_neg z, if_neg (fun y => z (o7 (hx.1.symm.trans y)))]; exact hx
 | false=>rw[if_neg (by decide),if_neg (by decide)];exact jV ⟨rfl,rfl,r⟩ h
section
variable{X:Cx}{pins:List (Addr×Obj)}{σ:L2.St}{H:Hp}{s:Shared}{a:Addr}{es:List Ent}{k:PyData}{kv v:V}{ku u:Value}{A:Around}{E:Value->Shared->Prop}
structure DicAt(X:Cx)(H:Hp)(a:Addr)(es:List Ent)(k:PyData)(kv:V):Prop where
 o:∃ ep,H a=some (bL X.w a es ep)
 ks:∀ e∈es,DatV X.K H e.2.1 e.1
 nd:(es.map (·.1)).Nodup
 dk:DatV X.K H kv k
 one:bM k (es.map (·.1))=true
theorem nA{α β:Type}{f:α->β->Prop}{y:β}:∀ {xs:List α} {ys:List β},Paired f xs ys->y∈ys->∃ x,x∈xs/\f x y
 | _,_,.nil,h=>by cases h
 | _,_,.cons q t,h=>by
  rcases List.mem_cons.mp h with z|z
  ·subst z;exact ⟨_,List.mem_cons_self,q⟩
  ·obtain ⟨x,h1,h2⟩:=nA t z
   exact ⟨x,List.mem_cons_of_mem _ h1,h2⟩
theorem jW{α β γ:Type}{f:α->β->Prop}{g:α->γ}{k:β->γ}(h:∀ a b,f a b->g a=k b):∀ {xs:List α} {ys:List β},Paired f xs ys->xs.map g=ys.map k
 | _,_,.nil=>rfl
 | _,_,.cons q t=>by rw[List.map_cons,List.map_cons,h _ _ q,jW h t]
theorem o8{α β:Type}{f:α->β}:∀ {xs:List α},(xs.map f).Nodup->xs.Nodup
 | [],_=>List.nodup_nil
 | x::t,h=>by
  rw[List.map_cons,List.nodup_cons] at h
  exact List.nodup_cons.mpr ⟨fun z=>h.1 (List.mem_map_of_mem z),o8 h.2⟩
theorem DicAt.cases (D : DicAt X H a es k kv) (I : Inv X pins σ H s) (rk : aR kv ku) : (a == sysModules) = false /\
    ((∃ b xs, kv = .ref b /\ ku = .ref b /\ Paired n9 es xs /\ (eQ X.prog X.w).is s.heap k b /\ s.heap.DictOfH (eQ X.prog X.w) a xs) \/
     (∃ kk xs, k = fW kk /\ kv = kV kk /\ Paired oA es xs /\ (cP X.prog X.w).is kk ku = true /\ s.heap.DictOf (cP X.prog X.w) a xs)) := by
  obtain ⟨ep, hO⟩ := D.o
  obtain ⟨⟨hd, o, ar, h1, h2, h3, h4⟩, _, _⟩ := (show bW X.prog X.w H s.heap a (bL X.w a es ep) from I.hok a _ hO)
  refine ⟨hd, ?_⟩
  have hone := D.one
  unfold bM at hone
  rw [Bool.or_eq_true, Bool.and_eq_true, Bool.and_eq_true, List.all_eq_true, List.all_eq_true] at hone
  rcases hone with ⟨hk, ha⟩ | ⟨hk, ha⟩
  · have key : ∀ (d : PyData) (v : V), f8 d = true -> DatV X.K H v d -> ∃ b', v = .ref b' /\ (eQ X.prog X.w).is s.heap d b' := fun d v hd hv => by
      obtain ⟨ws, rfl, q1, q2⟩ := aBI hd
      obtain ⟨b', vs, rfl, _, _⟩ := hv.tup_of
      obtain ⟨as, r⟩ := hv.reads I (u := .ref b') rfl
      exact ⟨b', rfl, q1, q2, as, r⟩
    obtain ⟨b, rfl, hkb⟩ := key _ _ hk D.dk
    cases (show ku = Value.ref b from rk)
    obtain ⟨xs, hx1, hx2⟩ := v5 (P := X.prog) h4 fun e he => by
      obtain ⟨b', e1, _⟩ := key e.1 e.2.1 (ha _ (List.mem_map_of_mem he)) (D.ks e he)
      exact ⟨b', e1⟩
    refine .inl ⟨b, xs, rfl, rfl, hx2, hkb, o, ar, ep, h1, h2, h3, hx1, fun x hx => ?_, ?_⟩
    · obtain ⟨e, he, hex⟩ := nA hx2 hx
      obtain ⟨b', e1, q⟩ := key e.1 e.2.1 (ha _ (List.mem_map_of_mem he)) (D.ks e he)
      rw [hex.2.1] at e1
      cases e1
      rw [<- hex.1]; exact q
    · rw [<- jW (g := fun e : Ent => e.1) (fun a b h => h.1) hx2]; exact D.nd
  · obtain ⟨kk, rfl⟩ := sM hk
    have hkv := sN D.dk
    obtain ⟨xs, hx1, hx2, hx3⟩ := v6 (P := X.prog) h4 fun e he => by
      obtain ⟨k', hk'⟩ := sM (ha _ (List.mem_map_of_mem he))
      have q := D.ks e he
      rw [hk'] at q
      exact ⟨k', hk', sN q⟩
    refine .inr ⟨kk, xs, rfl, hkv, hx2, aAH (by rw [<- hkv]; exact rk), o, ar, ep, h1, h2, h3, fun en hen => hx3 en (by simpa using hen), hx1, ?_⟩
    have : es.map (·.1) = (xs.map (·.1)).map fW := by rw [List.map_map]; exact jW (g := fun e : Ent => e.1) (fun a b h => h.1) hx2
    have nd := D.nd
    rw [this] at nd
    exact o8 nd
theorem iY{A:Around}(hu:A.units+64 < cLine):(eQ X.prog X.w).room A.in1:=by show A.in1.units+9 < cLine;rw[o4];omega
theorem aDW{Q:Value->Shared->Prop}(hu:A.units+64 < cLine)(D:DicAt X H a es k kv)(I:Inv X pins σ H s)(rk:aR kv ku)(h:∀ s',Inv X pins σ H s'->Q (.bool (atE es k).isSome) s'):wpAny (model X.prog X.w) A (compareOp .In ku (.ref a)) Q E s:=by
 obtain ⟨hd,⟨b,xs,rfl,rfl,hx,hk,dd⟩|⟨kk,xs,rfl,rfl,hx,hk,dd⟩⟩:=D.cases I rk
 ·refine wpAny_in_heap (iY hu) hk hd dd ?_
  have q:=fO (kP (k:=k) hx)
  rw[Option.isSome_map] at q
  rw[<-q];exact h _ (I.tok _)
 ·refine wpAny_in_of hk hd dd.mapOf ?_
  rw[<-fO (kQ (k:=kk) hx)];exact h _ (I.tok _)
theorem aBK{Q:Value->Shared->Prop}(hu:A.units+64 < cLine)(D:DicAt X H a es k kv)(I:Inv X pins σ H s)(rk:aR kv ku)(h:∀ s',Inv X pins σ H s'->Q (.bool (!(atE es k).isSome)) s'):wpAny (model X.prog X.w) A (compareOp .NotIn ku (.ref a)) Q E s:=by
 obtain ⟨hd,⟨b,xs,rfl,rfl,hx,hk,dd⟩|⟨kk,xs,rfl,rfl,hx,hk,dd⟩⟩:=D.cases I rk
 ·refine wpAny_notIn_heap (iY hu) hk hd dd ?_
  have q:=fO (kP (k:=k) hx)
  rw[Option.isSome_map] at q
  rw[<-q];exact h _ (I.tok _)
 ·refine wpAny_notIn_of hk hd dd.mapOf ?_
  rw[<-fO (kQ (k:=kk) hx)];exact h _ (I.tok _)
theorem aBL{Q:Value->Shared->Prop}(hu:A.units+64 < cLine)(D:DicAt X H a es k kv)(I:Inv X pins σ H s)(rk:aR kv ku)(hv:atE es k=some v)(h:∀ w' s',Inv X pins σ H s'->aR v w'->Q w' s'):wpAny (model X.prog X.w) A (getItem (.ref a) ku) Q E s:=by
 obtain ⟨hd,⟨b,xs,rfl,rfl,hx,hk,dd⟩|⟨kk,xs,rfl,rfl,hx,hk,dd⟩⟩:=D.cases I rk
 ·have q:=kP (k:=k) hx
  rw[hv] at q
  obtain ⟨w',hw,rw'⟩:=gX.some_of q
  obtain ⟨p,hp,hp2⟩:=Option.map_eq_some_iff.mp hw
  refine wpAny_getItem_heap (iY hu) hk dd hp ?_
  rw[hp2];exact h w' _ (I.tok _) rw'
 ·have q:=kQ (k:=kk) hx
  rw[hv] at q
  obtain ⟨w',hw,rw'⟩:=gX.some_of q
  exact wpAny_getItem_of hk dd.mapOf hw (h w' _ (I.tok _) rw')
theorem aBM{Q:Unit->Shared->Prop}(hu:A.units+64 < cLine)(D:DicAt X H a es k kv)(I:Inv X pins σ H s)(rk:aR kv ku)(rv:aR v u)(hz:es.length<=sizeLine)(h:∀ ep s',Inv X pins σ (upd H a (bL X.w a (f9 es k kv v) ep)) s'->Q () s') :
  wpAny (model X.prog X.w) A (setItem (.ref a) ku u) Q E s:=by
 obtain ⟨hd,⟨b,xs,rfl,rfl,hx,hk,dd⟩|⟨kk,xs,rfl,rfl,hx,hk,dd⟩⟩:=D.cases I rk
 ·have hl:xs.length<=sizeLine:=by rw[<-Paired.length hx];exact hz
  refine wpAny_setItem_heap (hsz:=hl) (iY hu) hk dd fun h' dd' hs=>?_
  obtain ⟨q',ar,ep,hq,h2,h3,h4,_,h5⟩:=dd'
  obtain ⟨ep0,hO⟩:=D.o
  refine h ep _ (iE I (by rw[hO];exact True.intro) hs ⟨q',hq⟩ (eY hd ⟨q',ar,hq,h2,h3,?_⟩))
  rw[h4]
  exact jS (uJ rv hx)
 ·have hl:xs.length<=sizeLine:=by rw[<-Paired.length hx];exact hz
  refine wpAny_setItem_pairs (hsz:=hl) hk dd fun h' dd' hs=>?_
  obtain ⟨q',ar,ep,hq,h2,h3,h4,h5,_⟩:=dd'
  obtain ⟨ep0,hO⟩:=D.o
  refine h ep _ (iE I (by rw[hO];exact True.intro) hs ⟨q',hq⟩ (eY hd ⟨q',ar,hq,h2,h3,?_⟩))
  exact jT (uK rv hx) h5 fun en hen=>h4 en (by simpa using hen)
end
end Fl
namespace Fl
open PySem L2 PyProof.Rows
structure Er where
 c:Str
 fs:List (Str×PyData)
inductive R(α:Type) where
 | bad|ok (a:α)|ex (e:Er)
noncomputable def R.bind{α β:Type}:R α->(α->R β)->R β
 | .bad,_=>.bad
 | .ok a,f=>f a
 | .ex e,_=>.ex e
@[simp] theorem R.bind_ok{α β:Type}(a:α)(f:α->R β):(R.ok a).bind f=f a:=id rfl
@[simp] theorem R.bind_bad{α β:Type}(f:α->R β):(R.bad:R α).bind f=.bad:=id rfl
@[simp] theorem R.bind_ex{α β:Type}(e:Er)(f:α->R β):(R.ex e:R α).bind f=.ex e:=id rfl
inductive A where
 | d (x:PyData)|l (xs:List PyData)|m (kvs:List (PyData×PyData))|x (e:Er)|g (k n:Nat) (f:List PyData->R PyData)|k (q:Str)|f (kvs:List (PyData×PyData))
abbrev Sg:=List (Option A)
structure Gb where
 B:Addr->Hp->Nat->Nat->(List PyData->R PyData)->Prop
 T:Hp
 w:World
structure Ct where
 K:Frag
 mg:Str->Option Value
 w:World
 F0:Hp
 H0:Hp
 g:Gb
 cells:List (Str×Addr)
 cls:Str->Option ClSt
theorem qI{w:World}{p:Addr}{es:List Ent}{ep:Nat}{q:Str}(h:bL w p es ep=.cod q):False:=by unfold bL at h;cases h
theorem bR(H:Hp):aF H H:=fun _ _ h=>h
theorem aW{H H':Hp}(s:aF H H'){a:Addr}(h:H' a=none):H a=none:=by
 cases e:H a with
 | none=>rfl
 | some o=>rw[s a o e] at h;cases h
def lO(H:Hp)(a:Addr):Prop:=H a=none\/∃ q,H a=some (.cod q)
theorem lO.back{H H1:Hp}{a:Addr}(s:aF H H1)(h:lO H1 a):lO H a:=by
 cases e:H a with
 | none=>exact .inl e
 | some o=>
  have e1:=s a o e
  rcases h with z|⟨q,z⟩
  · rw [e1] at z; cases z
  · rw [e1] at z; cases z; exact .inr ⟨q, e⟩
structure Ext(F H F' H':Hp):Prop where
 hh:aF H H'
 ff:aF F F'
 fh:aF F' H'
 nw:∀ a,F a=none->F' a≠none->lO H a
theorem Ext.refl{F H:Hp}(h:aF F H):Ext F H F H:=⟨bR H,bR F,h,fun a e n=>absurd e n⟩
theorem Ext.trans{F H F1 H1 F2 H2:Hp}(a:Ext F H F1 H1)(b:Ext F1 H1 F2 H2):Ext F H F2 H2:=
 ⟨fun x o e=>b.hh x o (a.hh x o e),fun x o e=>b.ff x o (a.ff x o e),b.fh,fun x e n=>by
  cases q:F1 x with
  | none=>exact (b.nw x q n).back a.hh
  | some o=>exact a.nw x e (by rw[q];exact fun z=>nomatch z)⟩
theorem Ext.stay{F H F' H':Hp}(s:Ext F H F' H'){p:Addr}{o:HO}(h3:F p=none)(h2:H p=some o)(hno:∀ q,o≠.cod q):F' p=none:=by
 cases q:F' p with
 | none=>rfl
 | some o=>
  rcases s.nw p h3 (by rw[q];exact fun z=>nomatch z) with z|⟨q',z⟩
  · rw [z] at h2; cases h2
  · rw [z] at h2; cases h2; exact absurd rfl (hno _)
theorem yN{F H:Hp}{p:Addr}{o:HO}(s:aF F H):aF (upd F p o) (upd H p o):=fun a u e=>by
 by_cases q:a=p
 · subst q; rw [aS] at e ⊢; exact e
 · rw [aK q] at e ⊢; exact s a u e
theorem Ext.new{F H:Hp}{p:Addr}{o:HO}(s:aF F H)(hp:H p=none):Ext F H (upd F p o) (upd H p o):=
 ⟨aF.upd hp,aF.upd (aW s hp),yN s,fun a e n=>by
  by_cases q:a=p
  · subst q; exact .inl hp
  · rw [aK q] at n; exact absurd e n⟩
theorem Ext.own{F H:Hp}{p:Addr}{o:HO}(s:aF F H)(hp:H p=none):Ext F H F (upd H p o):=
 ⟨aF.upd hp,bR F,fun a u e=>by
  rw[aK (bK (s a u e) hp)];exact s a u e,fun a e n=>absurd e n⟩
def kR(K:Frag)(mg:Str->Option Value)(F:Hp)(e:Er)(a C:Addr):Prop:=mg e.c=some (.ref C)/\∃ od,F a=some (ExO a C od)/\((e.fs=[]/\od=none)\/∃ d fvs,od=some d/\F d=some (.xd fvs)/\fvs.map (·.1)=e.fs.map (·.1)/\DatVs K F (fvs.map (·.2)) (e.fs.map (·.2)))
theorem kR.same{K:Frag}{mg:Str->Option Value}{F F':Hp}{e:Er}{a C:Addr}(s:aF F F')(h:kR K mg F e a C):kR K mg F' e a C:=by
 obtain ⟨m,od,h1,h2⟩:=h
 refine ⟨m,od,s _ _ h1,h2.imp id ?_⟩
 rintro ⟨d,fvs,e1,e2,e3,e4⟩
 exact ⟨d,fvs,e1,s _ _ e2,e3,e4.same s⟩
structure MapRel(K:Frag)(F:Hp)(es:List Ent)(kvs:List (PyData×PyData)):Prop where
 k1:es.map (·.1)=kvs.map (·.1)
 k2:DatVs K F (es.map (·.2.1)) (kvs.map (·.1))
 vs:DatVs K F (es.map (·.2.2)) (kvs.map (·.2))
 nd:(kvs.map (·.1)).Nodup
theorem MapRel.same{K:Frag}{F F':Hp}{es:List Ent}{kvs:List (PyData×PyData)}(s:aF F F')(h:MapRel K F es kvs):MapRel K F' es kvs:=⟨h.k1,h.k2.same s,h.vs.same s,h.nd⟩
def AF(g:Gb)(K:Frag)(mg:Str->Option Value)(F:Hp):A->V->Prop
 | .d x,v=>DatV K F v x
 | .x e,v=>∃ a C,v=.ref a/\kR K mg F e a C
 | .g k n G,v=>∃ f F1,v=.ref f/\aF F1 F/\g.B f F1 k n G
 | .f kvs,v=>∃ p es,v=.ref p/\(∃ ep,F p=some (bL g.w p es ep))/\MapRel K F es kvs
 | _,_=>False
theorem AF.same{g:Gb}{K:Frag}{mg:Str->Option Value}{F F':Hp}(s:aF F F'):∀ {a:A} {v:V},AF g K mg F a v->AF g K mg F' a v
 | .d x,v,h=>DatV.same s h
 | .x e,v,⟨a,C,h1,h2⟩=>⟨a,C,h1,h2.same s⟩
 | .g k n G,v,⟨f,F1,h1,h2,h3⟩=>⟨f,F1,h1,fun a o z=>s a o (h2 a o z),h3⟩
 | .f kvs,v,⟨p,es,h1,⟨ep,h2⟩,h3⟩=>⟨p,es,h1,⟨ep,s _ _ h2⟩,h3.same s⟩
noncomputable def A.own:A->Bool
 | .l _=>true
 | .m _=>true
 | _=>false
def AO(c:Ct)(F H:Hp):A->V->Prop
 | .l xs,v=>∃ p vs,v=.ref p/\H p=some (.lst vs)/\F p=none/\c.H0 p=none/\DatVs c.K F vs xs
 | .m kvs,v=>∃ p es,v=.ref p/\(∃ ep,H p=some (bL c.w p es ep))/\F p=none/\c.H0 p=none/\MapRel c.K F es kvs
 | .k q,v=>∃ S f cl doc pm cc ct,c.cls q=some S/\v=.ref f/\F f=some (FnO f (S.obj cl doc pm cc ct))/\F cc=some (.cod S.qual)/\ClOf c.cells S.scope cl
 | a,v=>AF c.g c.K c.mg F a v
theorem AO.ext{c:Ct}{F H F' H':Hp}(s:Ext F H F' H'):∀ {a:A} {v:V},AO c F H a v->AO c F' H' a v
 | .d x,v,h=>DatV.same s.ff h
 | .x e,v,h=>AF.same (g:=c.g) (K:=c.K) (mg:=c.mg) (a:=.x e) s.ff h
 | .g k n G,v,h=>AF.same (g:=c.g) (K:=c.K) (mg:=c.mg) (a:=.g k n G) s.ff h
 | .f kvs,v,h=>AF.same (g:=c.g) (K:=c.K) (mg:=c.mg) (a:=.f kvs) s.ff h
 | .k q,v,⟨S,f,cl,doc,pm,cc,ct,h0,h1,h2,h3,h4⟩=>⟨S,f,cl,doc,pm,cc,ct,h0,h1,s.ff _ _ h2,s.ff _ _ h3,h4⟩
 | .l xs,v,⟨p,vs,h1,h2,h3,h4,h5⟩=>⟨p,vs,h1,s.hh _ _ h2,s.stay h3 h2 (fun _ z=>nomatch z),h4,h5.same s.ff⟩
 | .m kvs,v,⟨p,vs,h1,⟨ep,h2⟩,h3,h4,h5⟩=>⟨p,vs,h1,⟨ep,s.hh _ _ h2⟩,s.stay h3 h2 (fun _ z=>qI z),h4,h5.same s.ff⟩
theorem AO.at{c:Ct}{F H:Hp}{a:A}{v:V}(h:AO c F H a v)(o:a.own=true):∃ p o,v=.ref p/\H p=some o/\F p=none/\c.H0 p=none:=by
 cases a with
 | l xs=>obtain ⟨p,vs,h1,h2,h3,h4,h5⟩:=h;exact ⟨p,_,h1,h2,h3,h4⟩
 | m xs=>obtain ⟨p,vs,h1,⟨ep,h2⟩,h3,h4,h5⟩:=h;exact ⟨p,_,h1,h2,h3,h4⟩
 | d x=>cases o
 | x e=>cases o
 | g k n f=>cases o
 | k S=>cases o
 | f S=>cases o
theorem AO.off{c:Ct}{F H:Hp}{p:Addr}{o:HO}:∀ {a:A} {v:V},AO c F H a v->v≠.ref p->AO c F (upd H p o) a v
 | .l xs,v,⟨q,vs,h1,h2,h3,h4,h5⟩,n=>⟨q,vs,h1,by rw[aK (fun z=>n (by rw[h1,z]))];exact h2,h3,h4,h5⟩
 | .m xs,v,⟨q,vs,h1,⟨ep,h2⟩,h3,h4,h5⟩,n=>⟨q,vs,h1,⟨ep,by rw[aK (fun z=>n (by rw[h1,z]))];exact h2⟩,h3,h4,h5⟩
 | .d x,v,h,_=>h
 | .x e,v,h,_=>h
 | .g k n G,v,h,_=>h
 | .k S,v,h,_=>h
 | .f S,v,h,_=>h
structure Ab(c:Ct)(ρ:Sg)(σ:L2.St)(F H:Hp):Prop where
 len:ρ.length=σ.length
 fh:aF F H
 slot:∀ (i:Nat) (a:A),ρ[i]? = some (some a)->∃ v,σ[i]? = some (some v)/\AO c F H a v
 apart:∀ (i j:Nat) (a b:A),i≠j->ρ[i]? = some (some a)->ρ[j]? = some (some b)->a.own=true->b.own=true->σ[i]? ≠ σ[j]?
 f0:aF c.F0 F
 h0:aF c.H0 H
 n0:∀ a,c.F0 a=none->F a≠none->lO c.H0 a
 t0:aF c.g.T c.F0
theorem Ab.all{c:Ct}{ρ:Sg}{σ:L2.St}{F H:Hp}(b:Ab c ρ σ F H):Ext c.F0 c.H0 F H:=⟨b.h0,b.f0,b.fh,b.n0⟩
theorem Ab.ext{c:Ct}{ρ:Sg}{σ:L2.St}{F H F' H':Hp}(b:Ab c ρ σ F H)(e:Ext F H F' H'):Ab c ρ σ F' H' where
 len:=b.len
 fh:=e.fh
 slot:=fun i a h=>let ⟨v,h1,h2⟩:=b.slot i a h;⟨v,h1,h2.ext e⟩
 apart:=b.apart
 f0:=fun x o h=>e.ff x o (b.f0 x o h)
 h0:=fun x o h=>e.hh x o (b.h0 x o h)
 n0:=fun a h n=>by
  cases q:F a with
  | none=>exact (e.nw a q n).back b.h0
  | some o=>exact b.n0 a h (by rw[q];exact fun z=>nomatch z)
 t0:=b.t0
def XW(c:Ct)(E:XK)(e:Er):Prop:=∀ a C F' H',Ext c.F0 c.H0 F' H'->kR c.K c.mg F' e a C->E (.ref C) (some a) H'
def Rk{α:Type}(c:Ct)(E:XK)(F H:Hp)(r:R α)(k:α->Prop):Prop:=match r with
 | .bad=>False
 | .ok a=>k a
 | .ex e=>XW c E e
abbrev VR(α:Type):=α->V->Hp->Hp->Hp->Prop
def tV{α:Type}(Rel:VR α)(c:Ct)(E:XK)(f:Sg->R α):TE:=fun σ H Q=>∃ ρ F,Ab c ρ σ F H/\Rk c E F H (f ρ) fun d=>∀ v F' H',Ext F H F' H'->Rel d v H F' H'->Q v H'
def bO(c:Ct):VR PyData:=fun d v _ F _=>DatV c.K F v d
def aN(K:Frag)(F H:Hp)(v:V)(d:PyData):Prop:=DatV K F v d\/∃ p vs xs,v=.ref p/\d=.list xs/\H p=some (.lst vs)/\DatVs K F vs xs
def aQ(c:Ct):VR PyData:=fun d v _ F H=>aN c.K F H v d
def uL(c:Ct):VR A:=fun a v _ F _=>AF c.g c.K c.mg F a v
def mE(c:Ct):VR (List PyData):=fun xs v H F H'=>∃ p vs,v=.ref p/\H p=none/\H' p=some (.lst vs)/\F p=none/\DatVs c.K F vs xs
abbrev PD(X:Cx)(c:Ct)(E:XK)(e:Expr)(f:Sg->R PyData):Prop:=PE X e (tV (bO c) c E f)
abbrev PR(X:Cx)(c:Ct)(E:XK)(e:Expr)(f:Sg->R PyData):Prop:=PE X e (tV (aQ c) c E f)
abbrev PV(X:Cx)(c:Ct)(E:XK)(e:Expr)(f:Sg->R A):Prop:=PE X e (tV (uL c) c E f)
abbrev PN(X:Cx)(c:Ct)(E:XK)(e:Expr)(f:Sg->R (List PyData)):Prop:=PE X e (tV (mE c) c E f)
theorem PE.imp{X:Cx}{e:Expr}{t t':TE}(h:PE X e t)(i:∀ σ H Q,t' σ H Q->t σ H Q):PE X e t':=fun pins s σ H Q I q=>h pins s σ H Q I (i σ H Q q)
theorem PT.imp{X:Cx}{e:Expr}{t t':TT}(h:PT X e t)(i:∀ σ H Q,t' σ H Q->t σ H Q):PT X e t':=fun pins s σ H Q I q=>h pins s σ H Q I (i σ H Q q)
theorem PS.imp{X:Cx}{e:Stmt}{t t':TS}(h:PS X e t)(i:∀ D σ H,t' D σ H->t D σ H):PS X e t':=fun pins s σ H D I q=>h pins s σ H D I (i D σ H q)
theorem PSs.imp{X:Cx}{e:List Stmt}{t t':TS}(h:PSs X e t)(i:∀ D σ H,t' D σ H->t D σ H):PSs X e t':=fun pins s σ H D I q=>h pins s σ H D I (i D σ H q)
def aAL{α:Type}(Rel:VR α):Prop:=∀ d v H F H1 F2 H2,Ext F H1 F2 H2->Rel d v H F H1->Rel d v H F2 H2
theorem aN.ext{K:Frag}{F H F' H':Hp}{v:V}{d:PyData}(e:Ext F H F' H')(h:aN K F H v d):aN K F' H' v d:=by
 rcases h with h|⟨p,vs,xs,h1,h2,h3,h4⟩
 · exact .inl (h.same e.ff)
 · exact .inr ⟨p, vs, xs, h1, h2, e.hh _ _ h3, h4.same e.ff⟩
theorem kS(c:Ct):aAL (aQ c):=fun d v H F H1 F2 H2 e h=>aN.ext e h
theorem aN.heap{K:Frag}{F H:Hp}{v:V}{d:PyData}(s:aF F H)(h:aN K F H v d):DatV K H v d:=by
 rcases h with h|⟨p,vs,xs,h1,h2,h3,h4⟩
 · exact h.same s
 · subst h1 h2; exact .lst (SqL.of h3) (h4.same s)
section
variable{X:Cx}{c:Ct}{E:XK}{α β γ:Type}{Ra:VR α}{Rb:VR β}{Rc:VR γ}{σ:L2.St}{H:Hp}{Q:VK}
theorem Rk.ok{F:Hp}{a:α}{k:α->Prop}(h:Rk c E F H (.ok a) k):k a:=h
theorem Rk.imp{F:Hp}{r:R α}{k k':α->Prop}(h:Rk c E F H r k)(i:∀ a,r=.ok a->k a->k' a):Rk c E F H r k':=by
 cases r with
 | bad=>exact h
 | ok a=>exact i a rfl h
 | ex e=>exact h
theorem Rk.bind{F:Hp}{r:R α}{f:α->R β}{k:β->Prop}(h:Rk c E F H (r.bind f) k):Rk c E F H r fun a=>Rk c E F H (f a) k:=by
 cases r with
 | bad=>exact h
 | ok a=>exact h
 | ex e=>exact h
theorem Rk.ext{F F' H':Hp}{r:R α}{k:α->Prop}(e:Ext F H F' H')(h:Rk c E F H r k):Rk c E F' H' r k:=by
 cases r with
 | bad=>exact h
 | ok a=>exact h
 | ex x=>exact h
end
def qJ{α:Type}(Rel:VR α):Prop:=∀ d v H H1 F' H',aF H H1->Rel d v H1 F' H'->Rel d v H F' H'
theorem h8(c:Ct):qJ (bO c):=fun _ _ _ _ _ _ _ h=>h
theorem aAM(c:Ct):qJ (mE c):=fun _ _ _ _ _ _ s h=>by
 obtain ⟨p,vs,h1,h2,h3⟩:=h
 exact ⟨p,vs,h1,aW s h2,h3⟩
section
variable{X:Cx}{c:Ct}{E:XK}{α β γ:Type}{Ra:VR α}{Rb:VR β}{Rc:VR γ}
def Op1(c:Ct)(Ra:VR α)(Rb:VR β)(g:α->R β)(r:V->Hp->VK->Prop):Prop:=
 ∀ (H0 F H:Hp) (a:α) (b:β) (v:V) (Q:VK),aF F H->Ra a v H0 F H->g a=.ok b->(∀ w F' H',Ext F H F' H'->Rb b w H F' H'->Q w H')->r v H Q
def Op2(c:Ct)(Ra:VR α)(Rb:VR β)(Rc:VR γ)(g:α->β->R γ)(r:R2):Prop:=
 ∀ (H0 H1 F H:Hp) (a:α) (b:β) (d:γ) (v u:V) (Q:VK),aF F H->Ra a v H0 F H->Rb b u H1 F H->g a b=.ok d->(∀ w F' H',Ext F H F' H'->Rc d w H F' H'->Q w H')->r v u H Q
def iL(g:α->R β):Prop:=∀ a e,g a≠.ex e
def b9(g:α->β->R γ):Prop:=∀ a b e,g a b≠.ex e
theorem tV1{f:Sg->R α}{g:α->R β}{r:V->Hp->VK->Prop}(ho:Op1 c Ra Rb g r)(hp:iL g)(kb:qJ Rb){σ:L2.St}{H:Hp}{Q:VK}(h:tV Rb c E (fun ρ=>(f ρ).bind g) σ H Q) :
  tV Ra c E f σ H fun v H1=>r v H1 Q:=by
 obtain ⟨ρ,F,ab,h⟩:=h
 refine ⟨ρ,F,ab,(Rk.bind h).imp fun a ea q v F1 H1 e1 rv=>?_⟩
 cases eg:g a with
 | bad=>rw[eg] at q;exact q.elim
 | ex e=>exact absurd eg (hp a e)
 | ok b=>
  rw[eg] at q
  exact ho H F1 H1 a b v Q e1.fh rv eg fun w F' H' e2 rw'=>q w F' H' (e1.trans e2) (kb _ _ _ _ _ _ e1.hh rw')
theorem tV2{f:Sg->R α}{f':Sg->R β}{g:α->β->R γ}{r:R2}(ho:Op2 c Ra Rb Rc g r)(hp:b9 g)(ka:aAL Ra)(kb:qJ Rc){σ:L2.St}{H:Hp}{Q:VK}(h:tV Rc c E (fun ρ=>(f ρ).bind fun a=>(f' ρ).bind fun b=>g a b) σ H Q) :
  tOp r (tV Ra c E f) (tV Rb c E f') σ H Q:=by
 obtain ⟨ρ,F,ab,h⟩:=h
 refine ⟨ρ,F,ab,(Rk.bind h).imp fun a ea q v F1 H1 e1 rv=>?_⟩
 refine ⟨ρ,F1,ab.ext e1,((Rk.bind q).ext e1).imp fun b eb q u F2 H2 e2 ru=>?_⟩
 cases eg:g a b with
 | bad=>rw[eg] at q;exact q.elim
 | ex e=>exact absurd eg (hp a b e)
 | ok d=>
  rw[eg] at q
  exact ho H H1 F2 H2 a b d v u Q e2.fh (ka _ _ _ _ _ _ _ e2 rv) ru eg fun w F' H' e3 rw'=>q w F' H' ((e1.trans e2).trans e3) (kb _ _ _ _ _ _ (fun x o z=>e2.hh x o (e1.hh x o z)) rw')
end
end Fl
namespace Fl
open PySem L2 PyProof.Rows
section
variable{K:Frag}{F H:Hp}{v:V}
theorem DatV.bl_of{b:Bool}(h:DatV K H v (.bool b)):v=.bl b:=by cases h;rfl
theorem DatV.non_of(h:DatV K H v .none):v=.non:=by cases h;rfl
theorem aN.int_of{i:Int}(h:aN K F H v (.int i)):v=.int i:=by
 rcases h with h|⟨_,_,_,_,h,_⟩
 · exact h.int_of
 · cases h
theorem aN.str_of{i:Str}(h:aN K F H v (.str i)):v=.str i:=by
 rcases h with h|⟨_,_,_,_,h,_⟩
 · exact h.str_of
 · cases h
theorem aN.bl_of{i:Bool}(h:aN K F H v (.bool i)):v=.bl i:=by
 rcases h with h|⟨_,_,_,_,h,_⟩
 · exact DatV.bl_of h
 · cases h
theorem aN.non_of(h:aN K F H v .none):v=.non:=by
 rcases h with h|⟨_,_,_,_,h,_⟩
 · exact DatV.non_of h
 · cases h
theorem aN.tup_of{xs:List PyData}(s:aF F H)(h:aN K F H v (.tuple xs)):∃ a vs,v=.ref a/\SqT K F a vs/\SqT K H a vs/\DatVs K F vs xs:=by
 rcases h with h|⟨_,_,_,_,h,_⟩
 ·obtain ⟨a,vs,h1,h2,h3⟩:=h.tup_of
  exact ⟨a,vs,h1,h2,h2.same s,h3⟩
 ·cases h
theorem aN.lst_of{xs:List PyData}(s:aF F H)(h:aN K F H v (.list xs)):∃ a vs,v=.ref a/\SqL K H a vs/\DatVs K F vs xs:=by
 rcases h with h|⟨p,vs,ys,h1,h2,h3,h4⟩
 ·obtain ⟨a,vs,h1,h2,h3⟩:=h.lst_of
  exact ⟨a,vs,h1,h2.same s,h3⟩
 ·cases h2
  exact ⟨p,vs,h1,SqL.of h3,h4⟩
theorem qK{vs:List V}{xs:List PyData}{i:Int}{d:PyData}(h:DatVs K F vs xs)(e:atI xs i=some d):∃ x,atI vs i=some x/\DatV K F x d:=by
 unfold atI at e ⊢
 rw[h.length]
 cases q:ixN xs.length i with
 | none=>rw[q] at e;cases e
 | some j=>
  rw[q] at e
  exact h.get' (i:=j) e
end
noncomputable def eV(i:Nat):Sg->R PyData:=fun ρ=>match ρ[i]? with
 | some (some (.d x))=>.ok x
 | _=>.bad
noncomputable def rV(i:Nat):Sg->R PyData:=fun ρ=>match ρ[i]? with
 | some (some (.d x))=>.ok x
 | some (some (.l xs))=>.ok (.list xs)
 | _=>.bad
noncomputable def vV(i:Nat):Sg->R A:=fun ρ=>match ρ[i]? with
 | some (some (.d x))=>.ok (.d x)
 | some (some (.x e))=>.ok (.x e)
 | some (some (.g k n f))=>.ok (.g k n f)
 | some (some (.f kvs))=>.ok (.f kvs)
 | _=>.bad
def eC(d:PyData):Sg->R PyData:=fun _=>.ok d
section
variable{X:Cx}{c:Ct}{E:XK}{e a b:Expr}
theorem cX{i:Nat}(h:PE X e (fG i)):PD X c E e (eV i):=PE.imp h fun σ H Q ⟨ρ,F,ab,k⟩=>by
 unfold eV at k
 split at k
 ·rename_i x hx
  obtain ⟨v,h1,h2⟩:=ab.slot i _ hx
  exact ⟨v,h1,k v F H (Ext.refl ab.fh) h2⟩
 ·exact k.elim
theorem aC{i:Nat}(h:PE X e (fG i)):PR X c E e (rV i):=PE.imp h fun σ H Q ⟨ρ,F,ab,k⟩=>by
 unfold rV at k
 split at k
 ·rename_i x hx
  obtain ⟨v,h1,h2⟩:=ab.slot i _ hx
  exact ⟨v,h1,k v F H (Ext.refl ab.fh) (.inl h2)⟩
 ·rename_i x hx
  obtain ⟨v,h1,p,vs,h2,h3,h4,h5,h6⟩:=ab.slot i _ hx
  exact ⟨v,h1,k v F H (Ext.refl ab.fh) (.inr ⟨p,vs,x,h2,rfl,h3,h6⟩)⟩
 ·exact k.elim
theorem bC{i:Nat}(h:PE X e (fG i)):PV X c E e (vV i):=PE.imp h fun σ H Q ⟨ρ,F,ab,k⟩=>by
 unfold vV at k
 split at k
 ·rename_i x hx
  obtain ⟨v,h1,h2⟩:=ab.slot i _ hx
  exact ⟨v,h1,k v F H (Ext.refl ab.fh) h2⟩
 ·rename_i x hx
  obtain ⟨v,h1,h2⟩:=ab.slot i _ hx
  exact ⟨v,h1,k v F H (Ext.refl ab.fh) h2⟩
 ·rename_i kk nn ff hx
  obtain ⟨v,h1,h2⟩:=ab.slot i _ hx
  exact ⟨v,h1,k v F H (Ext.refl ab.fh) h2⟩
 ·rename_i kvs hx
  obtain ⟨v,h1,h2⟩:=ab.slot i _ hx
  exact ⟨v,h1,k v F H (Ext.refl ab.fh) h2⟩
 ·exact k.elim
theorem mF{v:V}{d:PyData}(h:PE X e (tC v))(hd:∀ F,DatV c.K F v d):PD X c E e (eC d):=PE.imp h fun σ H Q ⟨ρ,F,ab,k⟩=>k v F H (Ext.refl ab.fh) (hd F)
theorem aD{i j pos}:PD X c E (.Constant (.int i) j pos) (eC (.int i)):=mF aC0 fun _=>.int i
theorem fE{i j pos}:PD X c E (.Constant (.bool i) j pos) (eC (.bool i)):=mF aE9 fun _=>.bl i
theorem gQ{i j pos}:PD X c E (.Constant (.str i) j pos) (eC (.str i)):=mF aC1 fun _=>.str i
theorem aA{f:Sg->R PyData}(h:PD X c E e f):PR X c E e f:=PE.imp h fun σ H Q ⟨ρ,F,ab,k⟩=>⟨ρ,F,ab,k.imp fun d _ q v F' H' s r=>q v F' H' s (.inl r)⟩
def vD(f:Sg->R PyData):Sg->R A:=fun ρ=>(f ρ).bind fun x=>.ok (.d x)
theorem bB{f:Sg->R PyData}(h:PD X c E e f):PV X c E e (vD f):=PE.imp h fun σ H Q ⟨ρ,F,ab,k⟩=>⟨ρ,F,ab,(Rk.bind k).imp fun d _ q v F' H' s r=>Rk.ok q v F' H' s r⟩
def getD:A->R PyData
 | .d x=>.ok x
 | _=>.bad
def eA(f:Sg->R A):Sg->R PyData:=fun ρ=>(f ρ).bind getD
theorem fF{f:Sg->R A}(h:PV X c E e f):PD X c E e (eA f):=PE.imp h fun σ H Q ⟨ρ,F,ab,k⟩=>⟨ρ,F,ab,(Rk.bind k).imp fun d _ q v F' H' s r=>by
 cases d with
 | d x=>exact Rk.ok q v F' H' s r
 | _=>exact False.elim q⟩
def eL(f:Sg->R (List PyData)):Sg->R PyData:=fun ρ=>(f ρ).bind fun xs=>.ok (.list xs)
theorem fD{f:Sg->R (List PyData)}(h:PN X c E e f):PD X c E e (eL f):=PE.imp h fun σ H Q ⟨ρ,F,ab,k⟩=>⟨ρ,F,ab,(Rk.bind k).imp fun xs _ q v F' H' s r=>by
 obtain ⟨p,vs,h1,h2,h3,h4,h5⟩:=r
 subst h1
 refine Rk.ok q (.ref p) (upd F' p (.lst vs)) H' ⟨s.hh,fun a o z=>?_,fun a o z=>?_,fun a z n=>?_⟩ (.lst (SqL.of aS) (h5.same (aF.upd h4)))
 ·rw[aK (bK (s.ff a o z) h4)];exact s.ff a o z
 ·by_cases w:a=p
  · subst w; rw [aS] at z; rw [h3]; exact z
  · rw [aK w] at z; exact s.fh a o z
 ·by_cases w:a=p
  · subst w; exact .inl h2
  · rw [aK w] at n; exact s.nw a z n⟩
def e1{α β:Type}(g:α->R β)(f:Sg->R α):Sg->R β:=fun ρ=>(f ρ).bind g
def e2{α β γ:Type}(g:α->β->R γ)(f:Sg->R α)(f':Sg->R β):Sg->R γ:=fun ρ=>(f ρ).bind fun x=>(f' ρ).bind fun y=>g x y
noncomputable def bP:PyData->PyData->R PyData
 | .int i,.int j=>.ok (.int (i+j))
 | .str x,.str y=>if x.length+y.length<=sizeLine then .ok (.str (x++y)) else .bad
 | .tuple xs,.tuple ys=>if xs.isEmpty=false/\xs.length+ys.length<=sizeLine then .ok (.tuple (xs++ys)) else .bad
 | _,_=>.bad
def dSub:PyData->PyData->R PyData
 | .int i,.int j=>.ok (.int (i - j))
 | _,_=>.bad
noncomputable def dMul:PyData->PyData->R PyData
 | .int i,.int j=>if (-18446744073709551616 < i/\i < 18446744073709551616)\/(-18446744073709551616 < j/\j < 18446744073709551616) then .ok (.int (i * j)) else .bad
 | _,_=>.bad
def dDiv:PyData->PyData->R PyData
 | .int i,.int j=>if 0 < j/\j < 18446744073709551616 then .ok (.int (i / j)) else .bad
 | _,_=>.bad
def dMod:PyData->PyData->R PyData
 | .int i,.int j=>if 0 < j then .ok (.int (i % j)) else .bad
 | _,_=>.bad
def dNeg:PyData->R PyData
 | .int i=>.ok (.int (-i))
 | _=>.bad
def dLt:PyData->PyData->R PyData
 | .int i,.int j=>.ok (.bool (decide (i < j)))
 | _,_=>.bad
def dLe:PyData->PyData->R PyData
 | .int i,.int j=>.ok (.bool (decide (i<=j)))
 | _,_=>.bad
def dGt:PyData->PyData->R PyData
 | .int i,.int j=>.ok (.bool (decide (j < i)))
 | _,_=>.bad
def dGe:PyData->PyData->R PyData
 | .int i,.int j=>.ok (.bool (decide (j<=i)))
 | _,_=>.bad
def dEq(x y:PyData):R PyData:=if SeqAt.shaped x=true/\SeqAt.shaped y=true then .ok (.bool (PyData.eqv x y)) else .bad
def dNe(x y:PyData):R PyData:=if SeqAt.shaped x=true/\SeqAt.shaped y=true then .ok (.bool (!PyData.eqv x y)) else .bad
def gH:PyData->Bool
 | .none=>true
 | _=>false
def dIs(x y:PyData):R PyData:=if gH y=true then .ok (.bool (gH x)) else .bad
def aFN(x y:PyData):R PyData:=if gH y=true then .ok (.bool (!gH x)) else .bad
noncomputable def inD:PyData->PyData->Option Bool
 | .str i,.str j=>some (!(Builtin.Str.occurrences j i 0 j.length 1).isEmpty)
 | x,.list xs=>if SeqAt.shaped x=true/\SeqAt.shaped (.list xs)=true then some (xs.any fun y=>PyData.eqv y x) else none
 | x,.tuple xs=>if SeqAt.shaped x=true/\SeqAt.shaped (.tuple xs)=true then some (xs.any fun y=>PyData.eqv y x) else none
 | _,_=>none
def dIn(x y:PyData):R PyData:=match inD x y with
 | some b=>.ok (.bool b)
 | none=>.bad
def dNin(x y:PyData):R PyData:=match inD x y with
 | some b=>.ok (.bool (!b))
 | none=>.bad
noncomputable def dIx:PyData->PyData->R PyData
 | .list xs,.int i=>match atI xs i with
  | some v=>.ok v
  | none=>.bad
 | .tuple xs,.int i=>match atI xs i with
  | some v=>.ok v
  | none=>.bad
 | .str z,.int i=>if z.length<=sizeLine then match atI z.cps.toList i with
  | some u=>.ok (.str ⟨#[u]⟩)
  | none=>.bad else .bad
 | _,_=>.bad
end
end Fl
namespace Fl
open PySem L2 PyProof.Rows
section
variable{X:Cx}{c:Ct}{E:XK}{e a b:Expr}{α β γ:Type}{Ra:VR α}{Rb:VR β}{Rc:VR γ}{pos:Pos}
def r2D(Ra:VR α)(Rb:VR β)(Rc:VR γ)(g:α->β->R γ):R2:=fun v u H Q=>∃ H0 H1 F a b d,aF F H/\Ra a v H0 F H/\Rb b u H1 F H/\g a b=.ok d/\∀ w F' H',Ext F H F' H'->Rc d w H F' H'->Q w H'
def r1D(Ra:VR α)(Rb:VR β)(g:α->R β):V->Hp->VK->Prop:=fun v H Q=>∃ H0 F a b,aF F H/\Ra a v H0 F H/\g a=.ok b/\∀ w F' H',Ext F H F' H'->Rb b w H F' H'->Q w H'
theorem nB{g:α->β->R γ}:Op2 c Ra Rb Rc g (r2D Ra Rb Rc g):=fun H0 H1 F H a b d v u Q sf ra rb eg q=>⟨H0,H1,F,a,b,d,sf,ra,rb,eg,q⟩
theorem nC{g:α->R β}:Op1 c Ra Rb g (r1D Ra Rb g):=fun H0 F H a b v Q sf ra eg q=>⟨H0,F,a,b,sf,ra,eg,q⟩
theorem aI{op:Operator}{g:PyData->PyData->R PyData}{fa fb:Sg->R PyData}(ho:OpR X (binaryOp op) (r2D (aQ c) (aQ c) (bO c) g))(hp:b9 g)(ha:PR X c E a fa)(hb:PR X c E b fb):PD X c E (.BinOp a op b pos) (e2 g fa fb):=
 PE.imp (aAD ho ha hb) fun σ H Q h=>tV2 nB hp (kS c) (h8 c) h
theorem aAN{op:UnaryOp}{g:PyData->R PyData}{fa:Sg->R PyData}(ho:UnR X (unaryOp op) (r1D (aQ c) (bO c) g))(hp:iL g)(ha:PR X c E a fa):PD X c E (.UnaryOp op a pos) (e1 g fa):=
 PE.imp (aFC ho ha) fun σ H Q h=>tV1 nC hp (h8 c) h
theorem jA{op:CmpOp}{g:PyData->PyData->R PyData}{fa fb:Sg->R PyData}(ho:OpR X (compareOp op) (r2D (aQ c) (aQ c) (bO c) g))(hp:b9 g)(ha:PR X c E a fa)(hb:PR X c E b fb)(hm:behindInMarks op b=false):PD X c E (.Compare a [op] [b] pos) (e2 g fa fb):=
 PE.imp (sE ho ha hb hm) fun σ H Q h=>tV2 nB hp (kS c) (h8 c) h
theorem aZ{g:PyData->PyData->R PyData}{fa fb:Sg->R PyData}(ho:IxR X (r2D (aQ c) (aQ c) (bO c) g))(hp:b9 g)(ha:PR X c E a fa)(hb:PR X c E b fb)(hs:sI b:=by exact fun _ _=>rfl):PD X c E (.Subscript a b pos) (e2 g fa fb):=
 PE.imp (L2.aFI ho ha hb hs) fun σ H Q h=>tV2 nB hp (kS c) (h8 c) h
theorem cJ(hK:X.K=c.K):OpR X (binaryOp .Add) (r2D (aQ c) (aQ c) (bO c) bP):=by
 intro pins s σ H v u x y Q I rx ry h
 obtain ⟨H0,H1,F,a,b,d,sf,ra,rb,eg,q⟩:=h
 unfold bP at eg
 split at eg
 ·rename_i i j
  cases eg
  obtain rfl:=aN.int_of ra
  obtain rfl:=aN.int_of rb
  exact aC9 pins s σ H _ _ x y Q I rx ry ⟨i,j,rfl,rfl,q _ F H (Ext.refl sf) (.int _)⟩
 ·rename_i i j
  split at eg
  ·rename_i hz
   cases eg
   obtain rfl:=aN.str_of ra
   obtain rfl:=aN.str_of rb
   exact tX pins s σ H _ _ x y Q I rx ry ⟨i,j,rfl,rfl,hz,q _ F H (Ext.refl sf) (.str _)⟩
  ·cases eg
 ·rename_i xs ys
  split at eg
  ·rename_i hz
   cases eg
   obtain ⟨pa,vs,rfl,fa,ha,da⟩:=aN.tup_of sf ra
   obtain ⟨pb,us,rfl,fb,hb,db⟩:=aN.tup_of sf rb
   rw[<-hK] at ha hb
   refine aBA pins s σ H _ _ x y Q I rx ry ⟨pa,pb,vs,us,rfl,rfl,ha,hb,?_,by rw[da.length,db.length];exact hz.2,fun z=>?_,fun z p hp=>?_⟩
   ·intro z;subst z;obtain rfl:xs=[]:=by cases da;rfl
    exact absurd hz.1 (by decide)
   ·subst z
    obtain rfl:ys=[]:=by cases db;rfl
    exact q _ F H (Ext.refl sf) (by rw[List.append_nil];exact .tup fa da)
   ·exact q _ _ _ (Ext.new sf hp) (.tup (SqT.of aS) ((da.append db).same (aF.upd (aW sf hp))))
  ·cases eg
 ·cases eg
theorem bS:b9 bP:=by
 intro a b e h
 unfold bP at h
 split at h<;>(try split at h)<;>cases h
theorem gR{f:Value->Value->Sem Value}{g:PyData->PyData->R PyData}{C:Int->Int->Prop}{k:Int->Int->PyData}{kv:Int->Int->V}(ho:OpR X f (rI C kv))(hk:∀ i j F,DatV c.K F (kv i j) (k i j))
  (hg:∀ a b d,g a b=.ok d->∃ i j,a=.int i/\b=.int j/\C i j/\d=k i j):OpR X f (r2D (aQ c) (aQ c) (bO c) g):=by
 intro pins s σ H v u x y Q I rx ry h
 obtain ⟨H0,H1,F,a,b,d,sf,ra,rb,eg,q⟩:=h
 obtain ⟨i,j,rfl,rfl,hc,rfl⟩:=hg a b d eg
 obtain rfl:=aN.int_of ra
 obtain rfl:=aN.int_of rb
 exact ho pins s σ H _ _ x y Q I rx ry ⟨i,j,rfl,rfl,hc,q _ F H (Ext.refl sf) (hk i j F)⟩
theorem pP{f:Value->Value->Sem Value}{kv:Int->Int->V}(ho:OpR X f (rI0 kv)):OpR X f (rI (fun _ _=>True) kv):=fun pins s σ H x y v u Q I rx ry ⟨i,j,h1,h2,_,q⟩=>ho pins s σ H x y v u Q I rx ry ⟨i,j,h1,h2,q⟩
theorem sO:OpR X (binaryOp .Sub) (r2D (aQ c) (aQ c) (bO c) dSub):=gR (pP aDA) (fun _ _ _=>.int _) fun a b d h=>by
 unfold dSub at h;split at h
 · cases h; exact ⟨_, _, rfl, rfl, trivial, rfl⟩
 · cases h
theorem iG:OpR X (binaryOp .Mult) (r2D (aQ c) (aQ c) (bO c) dMul):=gR aDB (fun _ _ _=>.int _) fun a b d h=>by
 unfold dMul at h;split at h
 ·split at h
  · rename_i hc; cases h; exact ⟨_, _, rfl, rfl, hc, rfl⟩
  · cases h
 ·cases h
theorem cM:OpR X (binaryOp .FloorDiv) (r2D (aQ c) (aQ c) (bO c) dDiv):=gR yG (fun _ _ _=>.int _) fun a b d h=>by
 unfold dDiv at h;split at h
 ·split at h
  · rename_i hc; cases h; exact ⟨_, _, rfl, rfl, hc, rfl⟩
  · cases h
 ·cases h
theorem bH:OpR X (binaryOp .Mod) (r2D (aQ c) (aQ c) (bO c) dMod):=gR aDC (fun _ _ _=>.int _) fun a b d h=>by
 unfold dMod at h;split at h
 ·split at h
  · rename_i hc; cases h; exact ⟨_, _, rfl, rfl, hc, rfl⟩
  · cases h
 ·cases h
theorem jB:OpR X (compareOp .Lt) (r2D (aQ c) (aQ c) (bO c) dLt):=gR (pP aFD) (fun _ _ _=>.bl _) fun a b d h=>by
 unfold dLt at h;split at h
 · cases h; exact ⟨_, _, rfl, rfl, trivial, rfl⟩
 · cases h
theorem nE:OpR X (compareOp .LtE) (r2D (aQ c) (aQ c) (bO c) dLe):=gR (pP aFE) (fun _ _ _=>.bl _) fun a b d h=>by
 unfold dLe at h;split at h
 · cases h; exact ⟨_, _, rfl, rfl, trivial, rfl⟩
 · cases h
theorem aDX:OpR X (compareOp .Gt) (r2D (aQ c) (aQ c) (bO c) dGt):=gR (pP aFF) (fun _ _ _=>.bl _) fun a b d h=>by
 unfold dGt at h;split at h
 · cases h; exact ⟨_, _, rfl, rfl, trivial, rfl⟩
 · cases h
theorem o9:b9 dSub:=by intro a b e h;unfold dSub at h;split at h<;>cases h
theorem fP:b9 dMul:=by intro a b e h;unfold dMul at h;split at h<;>(try split at h)<;>cases h
theorem bV:b9 dDiv:=by intro a b e h;unfold dDiv at h;split at h<;>(try split at h)<;>cases h
theorem aX:b9 dMod:=by intro a b e h;unfold dMod at h;split at h<;>(try split at h)<;>cases h
theorem gA:b9 dLt:=by intro a b e h;unfold dLt at h;split at h<;>cases h
theorem jX:b9 dLe:=by intro a b e h;unfold dLe at h;split at h<;>cases h
theorem yO:b9 dGt:=by intro a b e h;unfold dGt at h;split at h<;>cases h
theorem cY:b9 dEq:=by intro a b e h;unfold dEq at h;split at h<;>cases h
theorem mG:b9 dNe:=by intro a b e h;unfold dNe at h;split at h<;>cases h
theorem qL:b9 dIn:=by intro a b e h;unfold dIn at h;split at h<;>cases h
theorem v7:b9 dNin:=by intro a b e h;unfold dNin at h;split at h<;>cases h
theorem pA:iL dNeg:=by intro a e h;unfold dNeg at h;split at h<;>cases h
theorem aJ:b9 dIx:=by
 intro a b e h
 unfold dIx at h
 split at h<;>(try split at h)<;>(try split at h)<;>cases h
theorem sP:UnR X (unaryOp .USub) (r1D (aQ c) (bO c) dNeg):=by
 intro pins s σ H v x Q I rx h
 obtain ⟨H0,F,a,d,sf,ra,eg,q⟩:=h
 unfold dNeg at eg
 split at eg
 ·rename_i i
  cases eg
  obtain rfl:=aN.int_of ra
  exact aDE pins s σ H _ x Q I rx ⟨i,rfl,q _ F H (Ext.refl sf) (.int _)⟩
 ·cases eg
theorem dO(hK:X.K=c.K)(hu:X.A.units+64 < cLine):OpR X (compareOp .Eq) (r2D (aQ c) (aQ c) (bO c) dEq):=by
 intro pins s σ H v u x y Q I rx ry h
 obtain ⟨H0,H1,F,a,b,d,sf,ra,rb,eg,q⟩:=h
 unfold dEq at eg
 split at eg
 ·rename_i hs
  cases eg
  exact aDO hu pins s σ H _ _ x y Q I rx ry ⟨a,b,by rw[hK];exact aN.heap sf ra,by rw[hK];exact aN.heap sf rb,hs.1,hs.2,q _ F H (Ext.refl sf) (.bl _)⟩
 ·cases eg
theorem qM(hK:X.K=c.K)(hu:X.A.units+64 < cLine):OpR X (compareOp .NotEq) (r2D (aQ c) (aQ c) (bO c) dNe):=by
 intro pins s σ H v u x y Q I rx ry h
 obtain ⟨H0,H1,F,a,b,d,sf,ra,rb,eg,q⟩:=h
 unfold dNe at eg
 split at eg
 ·rename_i hs
  cases eg
  exact aDP hu pins s σ H _ _ x y Q I rx ry ⟨a,b,by rw[hK];exact aN.heap sf ra,by rw[hK];exact aN.heap sf rb,hs.1,hs.2,q _ F H (Ext.refl sf) (.bl _)⟩
 ·cases eg
theorem nF{xs:List PyData}(h:SeqAt.shaped (.list xs)=true):PyData.canLayAll0 xs=true/\PyData.depthAll xs<=63:=by
 have h':(PyData.canLay0 (.list xs) && decide ((PyData.list xs).depth<=64))=true:=h
 rw[Bool.and_eq_true] at h'
 have hd:PyData.depthAll xs+1<=64:=of_decide_eq_true h'.2
 exact ⟨h'.1,by omega⟩
theorem lZ{xs:List PyData}(h:SeqAt.shaped (.tuple xs)=true):PyData.canLayAll0 xs=true/\PyData.depthAll xs<=63:=by
 have h':(PyData.canLay0 (.tuple xs) && decide ((PyData.tuple xs).depth<=64))=true:=h
 rw[Bool.and_eq_true] at h'
 have hd:PyData.depthAll xs+1<=64:=of_decide_eq_true h'.2
 exact ⟨h'.1,by omega⟩
theorem iA{d:PyData}(h:SeqAt.shaped d=true):d.canLay0=true:=by
 have h':(PyData.canLay0 d && decide (d.depth<=64))=true:=h
 rw[Bool.and_eq_true] at h'
 exact h'.1
theorem inD_cases{x y:PyData}{b:Bool}(h:inD x y=some b):(∃ i j,x=.str i/\y=.str j/\b = !(Builtin.Str.occurrences j i 0 j.length 1).isEmpty) \/
  (∃ xs,y=.list xs/\SeqAt.shaped x=true/\SeqAt.shaped (.list xs)=true/\b=xs.any fun z=>PyData.eqv z x)\/(∃ xs,y=.tuple xs/\SeqAt.shaped x=true/\SeqAt.shaped (.tuple xs)=true/\b=xs.any fun z=>PyData.eqv z x):=by
 unfold inD at h
 split at h
 ·cases h;exact .inl ⟨_,_,rfl,rfl,rfl⟩
 ·split at h
  · rename_i hs; cases h; exact .inr (.inl ⟨_, rfl, hs.1, hs.2, rfl⟩)
  · cases h
 ·split at h
  · rename_i hs; cases h; exact .inr (.inr ⟨_, rfl, hs.1, hs.2, rfl⟩)
  · cases h
 ·cases h
theorem jY{a b:Nat}(h:a<=63):min a b<=63:=Nat.le_trans (Nat.min_le_left _ _) h
theorem v8(hK:X.K=c.K)(hu:X.A.units+64 < cLine):OpR X (compareOp .In) (r2D (aQ c) (aQ c) (bO c) dIn):=by
 intro pins s σ H v u x y Q I rx ry h
 obtain ⟨H0,H1,F,a,b,d,sf,ra,rb,eg,q⟩:=h
 unfold dIn at eg
 split at eg
 ·rename_i bb hb
  cases eg
  have fin:EP X pins σ Q (.bool bb) s:=⟨.bl bb,H,I,rfl,q _ F H (Ext.refl sf) (.bl _)⟩
  rcases inD_cases hb with ⟨i,j,rfl,rfl,rfl⟩|⟨xs,rfl,h1,h2,rfl⟩|⟨xs,rfl,h1,h2,rfl⟩
  ·obtain rfl:=aN.str_of ra
   obtain rfl:=aN.str_of rb
   exact vG pins s σ H _ _ x y Q I rx ry ⟨i,j,rfl,rfl,q _ F H (Ext.refl sf) (.bl _)⟩
  ·obtain ⟨as,r1⟩:=DatV.reads I (by rw[hK];exact aN.heap sf ra) rx
   obtain ⟨bs,r2⟩:=DatV.reads I (by rw[hK];exact aN.heap sf rb) ry
   have hs:=nF h2
   have hm:=jY (b:=a.depth) hs.2
   exact SeqAt.in_list_reads r2 r1 hs.1 (iA h1) (by omega) fin
  ·obtain ⟨as,r1⟩:=DatV.reads I (by rw[hK];exact aN.heap sf ra) rx
   obtain ⟨bs,r2⟩:=DatV.reads I (by rw[hK];exact aN.heap sf rb) ry
   have hs:=lZ h2
   have hm:=jY (b:=a.depth) hs.2
   exact SeqAt.in_tuple_reads r2 r1 hs.1 (iA h1) (by omega) fin
 ·cases eg
theorem aBN(hK:X.K=c.K)(hu:X.A.units+64 < cLine):OpR X (compareOp .NotIn) (r2D (aQ c) (aQ c) (bO c) dNin):=by
 intro pins s σ H v u x y Q I rx ry h
 obtain ⟨H0,H1,F,a,b,d,sf,ra,rb,eg,q⟩:=h
 unfold dNin at eg
 split at eg
 ·rename_i bb hb
  cases eg
  have fin:EP X pins σ Q (.bool (!bb)) s:=⟨.bl (!bb),H,I,rfl,q _ F H (Ext.refl sf) (.bl _)⟩
  rcases inD_cases hb with ⟨i,j,rfl,rfl,rfl⟩|⟨xs,rfl,h1,h2,rfl⟩|⟨xs,rfl,h1,h2,rfl⟩
  ·obtain rfl:=aN.str_of ra
   obtain rfl:=aN.str_of rb
   exact pZ pins s σ H _ _ x y Q I rx ry ⟨i,j,rfl,rfl,q _ F H (Ext.refl sf) (.bl _)⟩
  ·obtain ⟨as,r1⟩:=DatV.reads I (by rw[hK];exact aN.heap sf ra) rx
   obtain ⟨bs,r2⟩:=DatV.reads I (by rw[hK];exact aN.heap sf rb) ry
   have hs:=nF h2
   have hm:=jY (b:=a.depth) hs.2
   exact SeqAt.notIn_list_reads r2 r1 hs.1 (iA h1) (by omega) fin
  ·obtain ⟨as,r1⟩:=DatV.reads I (by rw[hK];exact aN.heap sf ra) rx
   obtain ⟨bs,r2⟩:=DatV.reads I (by rw[hK];exact aN.heap sf rb) ry
   have hs:=lZ h2
   have hm:=jY (b:=a.depth) hs.2
   exact SeqAt.notIn_tuple_reads r2 r1 hs.1 (iA h1) (by omega) fin
 ·cases eg
theorem a9(hK:X.K=c.K):IxR X (r2D (aQ c) (aQ c) (bO c) dIx):=by
 intro value slice pins s σ H v u x y Q I rx ry h hs
 obtain ⟨H0,H1,F,a,b,d,sf,ra,rb,eg,q⟩:=h
 unfold dIx at eg
 split at eg
 ·rename_i xs i
  split at eg
  ·rename_i w hw
   cases eg
   obtain ⟨p,vs,rfl,h1,h2⟩:=aN.lst_of sf ra
   obtain rfl:=aN.int_of rb
   obtain ⟨z,h3,h4⟩:=qK h2 hw
   rw[<-hK] at h1
   exact aBB value slice pins s σ H _ _ x y Q I rx ry ⟨p,vs,i,z,rfl,rfl,h1,h3,q _ F H (Ext.refl sf) h4⟩ hs
  ·cases eg
 ·rename_i xs i
  split at eg
  ·rename_i w hw
   cases eg
   obtain ⟨p,vs,rfl,_,h1,h2⟩:=aN.tup_of sf ra
   obtain rfl:=aN.int_of rb
   obtain ⟨z,h3,h4⟩:=qK h2 hw
   rw[<-hK] at h1
   exact aDL value slice pins s σ H _ _ x y Q I rx ry ⟨p,vs,i,z,rfl,rfl,h1,h3,q _ F H (Ext.refl sf) h4⟩ hs
  ·cases eg
 ·rename_i z i
  split at eg
  ·rename_i hz
   split at eg
   ·rename_i w hw
    cases eg
    obtain rfl:=aN.str_of ra
    obtain rfl:=aN.int_of rb
    exact aDM value slice pins s σ H _ _ x y Q I rx ry ⟨z,i,w,rfl,rfl,hz,hw,q _ F H (Ext.refl sf) (.str _)⟩ hs
   ·cases eg
  ·cases eg
 ·cases eg
def tTf(c:Ct)(E:XK)(f:Sg->R Bool):TT:=fun σ H Q=>∃ ρ F,Ab c ρ σ F H/\Rk c E F H (f ρ) fun b=>∀ F' H',Ext F H F' H'->Q b H'
abbrev PTf(X:Cx)(c:Ct)(E:XK)(e:Expr)(f:Sg->R Bool):Prop:=PT X e (tTf c E f)
def asB:PyData->R Bool
 | .bool b=>.ok b
 | _=>.bad
theorem lP{f:Sg->R PyData}{σ:L2.St}{H:Hp}{Q:Bool->Hp->Prop}(h:tTf c E (e1 asB f) σ H Q):tV (bO c) c E f σ H fun x H'=>∃ k,x=.bl k/\Q k H':=by
 obtain ⟨ρ,F,ab,h⟩:=h
 refine ⟨ρ,F,ab,(Rk.bind h).imp fun d _ q v F' H' s r=>?_⟩
 cases d with
 | bool b=>exact ⟨b,DatV.bl_of r,Rk.ok q F' H' s⟩
 | _=>exact False.elim q
theorem dA{op:CmpOp}{g:PyData->PyData->R PyData}{fa fb:Sg->R PyData}(ho:OpR X (compareOp op) (r2D (aQ c) (aQ c) (bO c) g))(hp:b9 g)(ha:PR X c E a fa)(hb:PR X c E b fb)(hm:behindInMarks op b=false):PTf X c E (.Compare a [op] [b] pos) (e1 asB (e2 g fa fb)):=
 PT.imp (nX ho ha hb hm) fun σ H Q h=>tV2 nB hp (kS c) (h8 c) (lP h)
theorem gM{f:Sg->R PyData}(h:PD X c E e f)(he:∀ whole,isTrue e X.env whole=(do let v <-whole;standAt e.pos;holding [v] (truthy v)):=by intro _;rfl):PTf X c E e (e1 asB f):=
 PT.imp (L2.gM h he) fun σ H Q h=>lP h
def uM(f g:Sg->R Bool):Sg->R Bool:=fun ρ=>(f ρ).bind fun b=>if b=true then g ρ else .ok false
def bOr(f g:Sg->R Bool):Sg->R Bool:=fun ρ=>(f ρ).bind fun b=>if b=true then .ok true else g ρ
def d0(f:Sg->R Bool):Sg->R Bool:=fun ρ=>(f ρ).bind fun b=>.ok (!b)
abbrev PWf(X:Cx)(c:Ct)(E:XK)(e:Expr)(f:Sg->R Bool):Prop:=PW X e (tTf c E f)
theorem PW.imp{X:Cx}{e:Expr}{t t':TT}(h:PW X e t)(i:∀ σ H Q,t' σ H Q->t σ H Q):PW X e t':=fun whole pins s σ H Q I q=>h whole pins s σ H Q I (i σ H Q q)
theorem aG6{f g:Sg->R Bool}{σ:L2.St}{H:Hp}{Q:Bool->Hp->Prop}(h:tTf c E (uM f g) σ H Q):aC2 (tTf c E f) (tTf c E g) σ H Q:=by
 obtain ⟨ρ,F,ab,h⟩:=h
 refine ⟨ρ,F,ab,(Rk.bind h).imp fun b _ q F' H' s=>?_⟩
 cases b with
 | true=>exact ⟨ρ,F',ab.ext s,(Rk.ext s q).imp fun d _ z F2 H2 s2=>z F2 H2 (s.trans s2)⟩
 | false=>exact Rk.ok q F' H' s
theorem tor{f g:Sg->R Bool}{σ:L2.St}{H:Hp}{Q:Bool->Hp->Prop}(h:tTf c E (bOr f g) σ H Q):tOr (tTf c E f) (tTf c E g) σ H Q:=by
 obtain ⟨ρ,F,ab,h⟩:=h
 refine ⟨ρ,F,ab,(Rk.bind h).imp fun b _ q F' H' s=>?_⟩
 cases b with
 | false=>exact ⟨ρ,F',ab.ext s,(Rk.ext s q).imp fun d _ z F2 H2 s2=>z F2 H2 (s.trans s2)⟩
 | true=>exact Rk.ok q F' H' s
theorem nW{f:Sg->R Bool}(h:PTf X c E a f):PWf X c E (.BoolOp .And [a] pos) f:=L2.nW h
theorem kH{f:Sg->R Bool}(h:PTf X c E a f):PWf X c E (.BoolOp .Or [a] pos) f:=L2.kH h
theorem pY{f g:Sg->R Bool}{rest:List Expr}(h:PTf X c E a f)(h2:PWf X c E (.BoolOp .And (b::rest) pos) g):PWf X c E (.BoolOp .And (a::b::rest) pos) (uM f g):=PW.imp (L2.pY h h2) fun _ _ _ q=>aG6 q
theorem lJ{f g:Sg->R Bool}{rest:List Expr}(h:PTf X c E a f)(h2:PWf X c E (.BoolOp .Or (b::rest) pos) g):PWf X c E (.BoolOp .Or (a::b::rest) pos) (bOr f g):=PW.imp (L2.lJ h h2) fun _ _ _ q=>tor q
theorem fR{f:Sg->R Bool}(h:PTf X c E a f):PTf X c E (.UnaryOp .Not a pos) (d0 f):=PT.imp (L2.fR h) fun σ H Q ⟨ρ,F,ab,k⟩=>⟨ρ,F,ab,(Rk.bind k).imp fun b _ q F' H' s=>Rk.ok q F' H' s⟩
noncomputable def kT(f g:Sg->R PyData):Sg->R PyData:=fun ρ=>(f ρ).bind fun x=>(asB x).bind fun b=>if b=true then g ρ else .ok (.bool false)
def eOr(f g:Sg->R PyData):Sg->R PyData:=fun ρ=>(f ρ).bind fun x=>(asB x).bind fun b=>if b=true then .ok (.bool true) else g ρ
def aG7(f:Sg->R PyData):Sg->R PyData:=fun ρ=>(f ρ).bind fun x=>(asB x).bind fun b=>.ok (.bool (!b))
def eIf{α:Type}(t:Sg->R Bool)(f g:Sg->R α):Sg->R α:=fun ρ=>(t ρ).bind fun b=>if b=true then f ρ else g ρ
theorem qN{op}{f:Sg->R PyData}(h:PD X c E a f):PD X c E (.BoolOp op [a] pos) f:=aC3 h
theorem nG{f g:Sg->R PyData}{rest:List Expr}(h:PD X c E a f)(h2:PD X c E (.BoolOp .And (b::rest) pos) g):PD X c E (.BoolOp .And (a::b::rest) pos) (kT f g):=PE.imp (aC4 h h2) fun σ H Q zz0=>by
 obtain ⟨ρ,F,ab,k⟩:=zz0
 refine ⟨ρ,F,ab,(Rk.bind k).imp fun d _ q v F' H' s r=>?_⟩
 cases d with
 | bool b=>
  refine ⟨b,DatV.bl_of r,?_⟩
  cases b with
  | true=>exact p8 ⟨ρ,F',ab.ext s,(Rk.ext s q).imp fun d _ z v F2 H2 s2=>z v F2 H2 (s.trans s2)⟩
  | false=>exact p7 (Rk.ok q (.bl false) F' H' s (.bl false))
 | _=>exact False.elim q
noncomputable def eCh(g g':PyData->PyData->R PyData)(fa fb fc:Sg->R PyData):Sg->R PyData:=fun ρ=>(fa ρ).bind fun x=>(fb ρ).bind fun y=>(g x y).bind fun z=>(asB z).bind fun k=>if k=true then (fc ρ).bind fun w=>g' y w else .ok (.bool false)
theorem v9{g g':PyData->PyData->R PyData}(hp:b9 g)(hp':b9 g'){fa fb fc:Sg->R PyData}{σ:L2.St}{H:Hp}{Q:VK}(h:tV (bO c) c E (eCh g g' fa fb fc) σ H Q) :
  tChain (r2D (aQ c) (aQ c) (bO c) g) (r2D (aQ c) (aQ c) (bO c) g') (tV (aQ c) c E fa) (tV (aQ c) c E fb) (tV (aQ c) c E fc) σ H Q:=by
 obtain ⟨ρ,F,ab,h⟩:=h
 refine ⟨ρ,F,ab,(Rk.bind h).imp fun x _ q v F1 H1 s1 rv=>?_⟩
 refine ⟨ρ,F1,ab.ext s1,((Rk.bind q).ext s1).imp fun y _ q u F2 H2 s2 ru=>?_⟩
 cases eg:g x y with
 | bad=>rw[eg] at q;exact q.elim
 | ex e=>exact absurd eg (hp x y e)
 | ok z=>
  rw[eg] at q
  refine ⟨H,H1,F2,x,y,z,s2.fh,aN.ext s2 rv,ru,eg,fun w F3 H3 s3 rw'=>?_⟩
  have s13:=(s1.trans s2).trans s3
  cases z with
  | bool k=>
   refine ⟨k,DatV.bl_of rw',?_⟩
   cases k with
   | false=>exact p7 (Rk.ok q (.bl false) F3 H3 s13 (.bl false))
   | true=>
    have q':Rk c E F H ((fc ρ).bind fun w=>g' y w) (fun d=>∀ v F' H',Ext F H F' H'->bO c d v H F' H'->Q v H'):=q
    refine p8 ⟨ρ,F3,ab.ext s13,((Rk.bind q').ext s13).imp fun w _ q v' F4 H4 s4 rw2=>?_⟩
    cases eg2:g' y w with
    | bad=>rw[eg2] at q;exact q.elim
    | ex e=>exact absurd eg2 (hp' y w e)
    | ok z2=>
     rw[eg2] at q
     exact ⟨H1,H3,F4,y,w,z2,s4.fh,aN.ext (s3.trans s4) ru,rw2,eg2,fun w' F5 H5 s5 r5=>Rk.ok q w' F5 H5 ((s13.trans s4).trans s5) r5⟩
  | _=>exact False.elim q
theorem qO{op op':CmpOp}{g g':PyData->PyData->R PyData}{cc:Expr}{fa fb fc:Sg->R PyData}(ho:OpR X (compareOp op) (r2D (aQ c) (aQ c) (bO c) g))(hp:b9 g)(ho':OpR X (compareOp op') (r2D (aQ c) (aQ c) (bO c) g'))(hp':b9 g')
  (ha:PR X c E a fa) (hb:PR X c E b fb) (hc:PR X c E cc fc) (hm:lastMarks [op,op'] [b,cc]=false:=by with_unfolding_all rfl):PD X c E (.Compare a [op,op'] [b,cc] pos) (eCh g g' fa fb fc):=
 PE.imp (x8 ho ho' ha hb hc hm) fun σ H Q h=>v9 hp hp' h
theorem jN{op op':CmpOp}{g g':PyData->PyData->R PyData}{cc:Expr}{fa fb fc:Sg->R PyData}(ho:OpR X (compareOp op) (r2D (aQ c) (aQ c) (bO c) g))(hp:b9 g)(ho':OpR X (compareOp op') (r2D (aQ c) (aQ c) (bO c) g'))(hp':b9 g')
  (ha:PR X c E a fa) (hb:PR X c E b fb) (hc:PR X c E cc fc) (hm:lastMarks [op,op'] [b,cc]=false:=by with_unfolding_all rfl):PTf X c E (.Compare a [op,op'] [b,cc] pos) (e1 asB (eCh g g' fa fb fc)):=
 PT.imp (L2.jN ho ho' ha hb hc hm) fun σ H Q h=>v9 hp hp' (lP h)
end
end Fl
namespace Fl
open PySem L2 PyProof.Rows
def AFs(g:Gb)(K:Frag)(mg:Str->Option Value)(F:Hp):List A->List V->Prop
 | [],[]=>True
 | a::as,v::vs=>AF g K mg F a v/\AFs g K mg F as vs
 | _,_=>False
theorem AFs.same{g:Gb}{K:Frag}{mg:Str->Option Value}{F F':Hp}(s:aF F F'):∀ {as:List A} {vs:List V},AFs g K mg F as vs->AFs g K mg F' as vs
 | [],[],_=>trivial
 | a::as,v::vs,h=>⟨AF.same s h.1,AFs.same s h.2⟩
theorem AFs.len{g:Gb}{K:Frag}{mg:Str->Option Value}{F:Hp}:∀ {as:List A} {vs:List V},AFs g K mg F as vs->vs.length=as.length
 | [],[],_=>rfl
 | a::as,v::vs,h=>by rw[List.length_cons,List.length_cons,AFs.len h.2]
theorem PA.imp{X:Cx}{es:List Expr}{t t':TA}(h:PA X es t)(i:∀ σ H Q,t' σ H Q->t σ H Q):PA X es t':=fun pos pins s σ H Q I q=>h pos pins s σ H Q I (i σ H Q q)
def tAd(c:Ct)(E:XK)(f:Sg->R (List PyData)):TA:=fun σ H Q=>∃ ρ F,Ab c ρ σ F H/\Rk c E F H (f ρ) fun ds=>∀ vs F' H',Ext F H F' H'->DatVs c.K F' vs ds->Q vs H'
def tAv(c:Ct)(E:XK)(f:Sg->R (List A)):TA:=fun σ H Q=>∃ ρ F,Ab c ρ σ F H/\Rk c E F H (f ρ) fun ds=>∀ vs F' H',Ext F H F' H'->AFs c.g c.K c.mg F' ds vs->Q vs H'
abbrev PAd(X:Cx)(c:Ct)(E:XK)(es:List Expr)(f:Sg->R (List PyData)):Prop:=PA X es (tAd c E f)
abbrev PAv(X:Cx)(c:Ct)(E:XK)(es:List Expr)(f:Sg->R (List A)):Prop:=PA X es (tAv c E f)
noncomputable def aL{α:Type}:Sg->R (List α):=fun _=>.ok []
def aB{α:Type}(f:Sg->R α)(g:Sg->R (List α)):Sg->R (List α):=fun ρ=>(f ρ).bind fun x=>(g ρ).bind fun xs=>.ok (x::xs)
section
variable{X:Cx}{c:Ct}{E:XK}{e a b:Expr}{es:List Expr}{pos:Pos}
theorem cC:PAd X c E [] aL:=PA.imp aU fun σ H Q ⟨ρ,F,ab,k⟩=>Rk.ok k [] F H (Ext.refl ab.fh) .nil
theorem bY:PAv X c E [] aL:=PA.imp aU fun σ H Q ⟨ρ,F,ab,k⟩=>Rk.ok k [] F H (Ext.refl ab.fh) trivial
theorem bA{f:Sg->R PyData}{g:Sg->R (List PyData)}(h:PD X c E e f)(h2:PAd X c E es g)(hs:starEach (e::es) X.env=(false,eval e X.env)::starEach es X.env:=by rfl):PAd X c E (e::es) (aB f g):=PA.imp (aM h h2 hs) fun σ H Q zz0=>by
 obtain ⟨ρ,F,ab,k⟩:=zz0
 refine ⟨ρ,F,ab,(Rk.bind k).imp fun x _ q v F1 H1 s1 r1=>⟨ρ,F1,ab.ext s1,((Rk.bind q).ext s1).imp fun xs _ q vs F2 H2 s2 r2=>?_⟩⟩
 exact Rk.ok q (v::vs) F2 H2 (s1.trans s2) (.cons (DatV.same s2.ff r1) r2)
theorem aH{f:Sg->R A}{g:Sg->R (List A)}(h:PV X c E e f)(h2:PAv X c E es g)(hs:starEach (e::es) X.env=(false,eval e X.env)::starEach es X.env:=by rfl):PAv X c E (e::es) (aB f g):=PA.imp (aM h h2 hs) fun σ H Q zz0=>by
 obtain ⟨ρ,F,ab,k⟩:=zz0
 refine ⟨ρ,F,ab,(Rk.bind k).imp fun x _ q v F1 H1 s1 r1=>⟨ρ,F1,ab.ext s1,((Rk.bind q).ext s1).imp fun xs _ q vs F2 H2 s2 r2=>?_⟩⟩
 exact Rk.ok q (v::vs) F2 H2 (s1.trans s2) ⟨AF.same s2.ff r1,r2⟩
def cZ(f:Sg->R (List PyData)):Sg->R PyData:=fun ρ=>(f ρ).bind fun xs=>if xs.length<=16777216 then .ok (.tuple xs) else .bad
def dM(f:Sg->R (List PyData)):Sg->R (List PyData):=fun ρ=>(f ρ).bind fun xs=>if xs.length<=16777216 then .ok xs else .bad
theorem cD:sizeLine=16777216:=sizeLine_eq
theorem dW{x1}{f:Sg->R (List PyData)}(h:PAd X c E es f):PD X c E (.Tuple es x1 pos) (cZ f):=PE.imp (aDG h) fun σ H Q zz0=>by
 obtain ⟨ρ,F,ab,k⟩:=zz0
 refine ⟨ρ,F,ab,(Rk.bind k).imp fun xs _ q vs F1 H1 s1 r1=>?_⟩
 by_cases hz:xs.length<=16777216
 ·rw[if_pos hz] at q
  refine ⟨by rw[r1.length,cD];exact hz,fun p hp=>?_⟩
  exact Rk.ok q (.ref p) _ _ (s1.trans (Ext.new s1.fh hp)) (.tup (SqT.of aS) (r1.same (aF.upd (aW s1.fh hp))))
 ·rw[if_neg hz] at q;exact q.elim
theorem gS{f:Sg->R (List PyData)}(h:PAd X c E es f):PN X c E (.List es pos) (dM f):=PE.imp (aDH h) fun σ H Q zz0=>by
 obtain ⟨ρ,F,ab,k⟩:=zz0
 refine ⟨ρ,F,ab,(Rk.bind k).imp fun xs _ q vs F1 H1 s1 r1=>?_⟩
 by_cases hz:xs.length<=16777216
 ·rw[if_pos hz] at q
  refine ⟨by rw[r1.length,cD];exact hz,fun p hp=>?_⟩
  exact Rk.ok q (.ref p) _ _ (s1.trans (Ext.own s1.fh hp)) ⟨p,vs,rfl,aW s1.hh hp,aS,aW s1.fh hp,r1⟩
 ·rw[if_neg hz] at q;exact q.elim
noncomputable def dLen:PyData->R PyData
 | .str z=>if z.length<=16777216 then .ok (.int z.length) else .bad
 | .list xs=>.ok (.int xs.length)
 | .tuple xs=>.ok (.int xs.length)
 | _=>.bad
theorem plain_len:iL dLen:=by intro a e h;unfold dLen at h;split at h<;>(try split at h)<;>cases h
theorem dB{fa:Sg->R PyData}(hK:X.K=c.K)(h0:PE X e (tCB (fun xs H Q=>∃ x n,xs=[x]/\aDF X.K x H n/\Q (.int n) H) (cS (tV (aQ c) c E fa) eJ))):PD X c E e (e1 dLen fa):=
 PE.imp h0 fun σ H Q h=>by
  obtain ⟨ρ,F,ab,k⟩:=tV1 (Ra:=aQ c) nC plain_len (h8 c) h
  refine ⟨ρ,F,ab,k.imp fun d _ q v F' H' s r=>?_⟩
  obtain ⟨H0,F1,a,d',sf,ra,eg,q⟩:=q v F' H' s r
  unfold dLen at eg
  split at eg
  ·rename_i z
   split at eg
   ·rename_i hz
    cases eg
    obtain rfl:=aN.str_of ra
    exact ⟨_,_,rfl,⟨by rw[cD];exact hz,rfl⟩,q _ F1 H' (Ext.refl sf) (.int _)⟩
   ·cases eg
  ·cases eg
   obtain ⟨p,vs,rfl,h1,h2⟩:=aN.lst_of sf ra
   rw[<-hK] at h1
   exact ⟨_,vs.length,rfl,.inl ⟨vs,h1,rfl⟩,q _ F1 H' (Ext.refl sf) (by rw[h2.length];exact .int _)⟩
  ·cases eg
   obtain ⟨p,vs,rfl,_,h1,h2⟩:=aN.tup_of sf ra
   rw[<-hK] at h1
   exact ⟨_,vs.length,rfl,.inr ⟨vs,h1,rfl⟩,q _ F1 H' (Ext.refl sf) (by rw[h2.length];exact .int _)⟩
  ·cases eg
noncomputable def dTup:PyData->R PyData
 | .list xs=>.ok (.tuple xs)
 | .tuple xs=>.ok (.tuple xs)
 | _=>.bad
theorem wA:iL dTup:=by intro a e h;unfold dTup at h;split at h<;>cases h
theorem fH{fa:Sg->R PyData}(hK:X.K=c.K)(h0:PE X e (tCB (fun xs H Q=>∃ p ys,xs=[.ref p]/\((SqL X.K H p ys/\∀ l,H l=none->Q (.ref l) (upd H l (.tup ys)))\/(SqT X.K H p ys/\Q (.ref p) H))) (cS (tV (aQ c) c E fa) eJ))):PD X c E e (e1 dTup fa):=
 PE.imp h0 fun σ H Q h=>by
  obtain ⟨ρ,F,ab,k⟩:=tV1 (Ra:=aQ c) nC wA (h8 c) h
  refine ⟨ρ,F,ab,k.imp fun d _ q v F' H' s r=>?_⟩
  obtain ⟨H0,F1,a,d',sf,ra,eg,q⟩:=q v F' H' s r
  unfold dTup at eg
  split at eg
  ·cases eg
   obtain ⟨p,vs,rfl,h1,h2⟩:=aN.lst_of sf ra
   rw[<-hK] at h1
   exact ⟨p,vs,rfl,.inl ⟨h1,fun l hl=>q _ _ _ (Ext.new sf hl) (.tup (SqT.of aS) (h2.same (aF.upd (aW sf hl))))⟩⟩
  ·cases eg
   obtain ⟨p,vs,rfl,f1,h1,h2⟩:=aN.tup_of sf ra
   rw[<-hK] at h1
   exact ⟨p,vs,rfl,.inr ⟨h1,q _ F1 H' (Ext.refl sf) (.tup f1 h2)⟩⟩
  ·cases eg
noncomputable def dLst:PyData->R (List PyData)
 | .list xs=>.ok xs
 | .tuple xs=>.ok xs
 | _=>.bad
theorem wB:iL dLst:=by intro a e h;unfold dLst at h;split at h<;>cases h
theorem oB{fa:Sg->R PyData}(hK:X.K=c.K)(h0:PE X e (tCB (fun xs H Q=>∃ p ys,xs=[.ref p]/\(SqL X.K H p ys\/SqT X.K H p ys)/\∀ l,H l=none->Q (.ref l) (upd H l (.lst ys))) (cS (tV (aQ c) c E fa) eJ))):PN X c E e (e1 dLst fa):=
 PE.imp h0 fun σ H Q h=>by
  obtain ⟨ρ,F,ab,k⟩:=tV1 (Ra:=aQ c) nC wB (aAM c) h
  refine ⟨ρ,F,ab,k.imp fun d _ q v F' H' s r=>?_⟩
  obtain ⟨H0,F1,a,d',sf,ra,eg,q⟩:=q v F' H' s r
  unfold dLst at eg
  split at eg
  ·cases eg
   obtain ⟨p,vs,rfl,h1,h2⟩:=aN.lst_of sf ra
   rw[<-hK] at h1
   exact ⟨p,vs,rfl,.inl h1,fun l hl=>q _ _ _ (Ext.own sf hl) ⟨l,vs,rfl,hl,aS,aW sf hl,h2⟩⟩
  ·cases eg
   obtain ⟨p,vs,rfl,f1,h1,h2⟩:=aN.tup_of sf ra
   rw[<-hK] at h1
   exact ⟨p,vs,rfl,.inr h1,fun l hl=>q _ _ _ (Ext.own sf hl) ⟨l,vs,rfl,hl,aS,aW sf hl,h2⟩⟩
  ·cases eg
noncomputable def aDY:PyData->R PyData
 | .int i=>.ok (.int i)
 | .bool b=>.ok (.int (if b=true then 1 else 0))
 | _=>.bad
noncomputable def jZ:List PyData->Option (List Bool)
 | []=>some []
 | .bool b::t=>(jZ t).map (b :: ·)
 | _=>none
def dAll:PyData->R PyData
 | .list xs=>match jZ xs with
  | some bs=>.ok (.bool (bs.all id))
  | none=>.bad
 | _=>.bad
theorem wC:iL dAll:=by intro a e h;unfold dAll at h;split at h<;>(try split at h)<;>cases h
theorem qP{K:Frag}{F:Hp}:∀ {vs:List V} {xs:List PyData} {bs:List Bool},DatVs K F vs xs->jZ xs=some bs->vs=bs.map V.bl
 | _,_,bs,.nil,e=>by cases e;rfl
 | _,_,bs,.cons (d:=d) (ds:=t) h h2,e=>by
  cases d with
  | bool b=>
   unfold jZ at e
   cases q:jZ t with
   | none=>rw[q] at e;cases e
   | some cs=>
    rw[q] at e
    cases e
    rw[qP h2 q,DatV.bl_of h];rfl
  | _=>cases e
theorem aDZ{fa:Sg->R PyData}(hK:X.K=c.K)(h0:PE X e (tCB (fun xs H Q=>∃ (a:Addr) (bs:List Bool),xs=[.ref a]/\SqL X.K H a (bs.map V.bl)/\Q (.bl (bs.all id)) H) (cS (tV (aQ c) c E fa) eJ))):PD X c E e (e1 dAll fa):=
 PE.imp h0 fun σ H Q h=>by
  obtain ⟨ρ,F,ab,k⟩:=tV1 (Ra:=aQ c) nC wC (h8 c) h
  refine ⟨ρ,F,ab,k.imp fun d _ q v F' H' s r=>?_⟩
  obtain ⟨H0,F1,a,d',sf,ra,eg,q⟩:=q v F' H' s r
  unfold dAll at eg
  split at eg
  ·split at eg
   ·rename_i bs hb
    cases eg
    obtain ⟨p,vs,rfl,h1,h2⟩:=aN.lst_of sf ra
    rw[<-hK] at h1
    obtain rfl:=qP h2 hb
    exact ⟨p,bs,rfl,h1,q _ F1 H' (Ext.refl sf) (.bl _)⟩
   ·cases eg
  ·cases eg
end
end Fl
namespace Fl
open PySem L2 PyProof.Rows
inductive Fw where
 | nx (ρ:Sg)|bk (ρ:Sg)|ct (ρ:Sg)|rt (a:A)
def AR(g:Gb)(K:Frag)(mg:Str->Option Value)(H F' H':Hp):A->V->Prop
 | .l xs,v=>∃ p us,v=.ref p/\H p=none/\H' p=some (.lst us)/\F' p=none/\DatVs K F' us xs
 | a,v=>AF g K mg F' a v
theorem AR.of{g:Gb}{K:Frag}{mg:Str->Option Value}{H F' H':Hp}{a:A}{v:V}(h:AF g K mg F' a v):AR g K mg H F' H' a v:=by
 cases a with
 | l xs=>exact False.elim h
 | _=>exact h
def eK(c:Ct)(F:Hp)(D:kA):Fw->Prop
 | .nx ρ=>∀ σ' F' H',aF F F'->Ab c ρ σ' F' H'->D.nx σ' H'
 | .bk ρ=>∀ σ' F' H',aF F F'->Ab c ρ σ' F' H'->D.bk σ' H'
 | .ct ρ=>∀ σ' F' H',aF F F'->Ab c ρ σ' F' H'->D.ct σ' H'
 | .rt a=>∀ v F' H',Ext c.F0 c.H0 F' H'->AR c.g c.K c.mg c.H0 F' H' a v->D.rt v H'
theorem eK.same{c:Ct}{F F1:Hp}{D:kA}(s:aF F F1):∀ {w:Fw},eK c F D w->eK c F1 D w
 | .nx ρ,h=>fun σ' F' H' s' ab=>h σ' F' H' (fun a o z=>s' a o (s a o z)) ab
 | .bk ρ,h=>fun σ' F' H' s' ab=>h σ' F' H' (fun a o z=>s' a o (s a o z)) ab
 | .ct ρ,h=>fun σ' F' H' s' ab=>h σ' F' H' (fun a o z=>s' a o (s a o z)) ab
 | .rt a,h=>h
def tSf(c:Ct)(E:XK)(f:Sg->R Fw):TS:=fun D σ H=>∃ ρ F,Ab c ρ σ F H/\Rk c E F H (f ρ) (eK c F D)
abbrev PSf(X:Cx)(c:Ct)(E:XK)(st:Stmt)(f:Sg->R Fw):Prop:=PS X st (tSf c E f)
abbrev kU(X:Cx)(c:Ct)(E:XK)(st:List Stmt)(f:Sg->R Fw):Prop:=PSs X st (tSf c E f)
theorem get_set{α:Type}{l:List α}{i j:Nat}{x y:α}(h:(l.set i x)[j]? = some y):(i=j/\y=x/\i < l.length)\/(i≠j/\l[j]? = some y):=by
 by_cases e:i=j
 ·subst e
  by_cases hl:i < l.length
  · rw [List.getElem?_set_self hl] at h; exact .inl ⟨rfl, (Option.some.inj h).symm, hl⟩
  · rw [List.getElem?_eq_none_iff.mpr (by rw [List.length_set]; omega)] at h; cases h
 ·rw[List.getElem?_set_ne e] at h;exact .inr ⟨e,h⟩
theorem Ab.setF{c:Ct}{ρ:Sg}{σ:L2.St}{F H:Hp}{i:Nat}{a:A}{v:V}(b:Ab c ρ σ F H)(ha:AO c F H a v)(hn:a.own=true->∀ (j:Nat) (a':A),j≠i->ρ[j]? = some (some a')->a'.own=true->σ[j]? ≠ some (some v)):Ab c (ρ.set i (some a)) (σ.set i (some v)) F H where
 len:=by rw[List.length_set,List.length_set];exact b.len
 fh:=b.fh
 slot:=fun j a' h=>by
  rcases get_set h with ⟨e,q,hl⟩|⟨ne,q⟩
  ·subst e
   cases q
   exact ⟨v,List.getElem?_set_self (by rw[<-b.len];exact hl),ha⟩
  ·rw[List.getElem?_set_ne ne];exact b.slot j a' q
 apart:=fun j k a' b' hjk h1 h2 o1 o2=>by
  rcases get_set h1 with ⟨e,q,hl⟩|⟨ne,q⟩
  ·subst e
   cases q
   rcases get_set h2 with ⟨e',q',hl'⟩|⟨ne',q'⟩
   ·exact absurd e' hjk
   ·rw[List.getElem?_set_self (by rw[<-b.len];exact hl),List.getElem?_set_ne ne']
    exact (hn o1 k b' (Ne.symm hjk) q' o2).symm
  ·rcases get_set h2 with ⟨e',q',hl'⟩|⟨ne',q'⟩
   ·subst e'
    cases q'
    rw[List.getElem?_set_self (by rw[<-b.len];exact hl'),List.getElem?_set_ne ne]
    exact hn o2 j a' hjk q o1
   ·rw[List.getElem?_set_ne ne,List.getElem?_set_ne ne']
    exact b.apart j k a' b' hjk q q' o1 o2
 f0:=b.f0
 h0:=b.h0
 n0:=b.n0
 t0:=b.t0
theorem AO.of{c:Ct}{F H:Hp}:∀ {a:A} {v:V},AF c.g c.K c.mg F a v->AO c F H a v
 | .d x,v,h=>h
 | .x e,v,h=>h
 | .g k n G,v,h=>h
 | .f kvs,v,h=>h
theorem AF.notOwn{g:Gb}{K:Frag}{mg:Str->Option Value}{F:Hp}:∀ {a:A} {v:V},AF g K mg F a v->a.own=false
 | .d x,v,h=>rfl
 | .x e,v,h=>rfl
 | .g k n G,v,h=>rfl
 | .f kvs,v,h=>rfl
theorem Ab.setA{c:Ct}{ρ:Sg}{σ:L2.St}{F H:Hp}{i:Nat}{a:A}{v:V}(b:Ab c ρ σ F H)(ha:AF c.g c.K c.mg F a v):Ab c (ρ.set i (some a)) (σ.set i (some v)) F H:=
 b.setF (AO.of ha) fun z=>by rw[AF.notOwn ha] at z;cases z
theorem Ab.setN{c:Ct}{ρ:Sg}{σ:L2.St}{F H F' H':Hp}{i:Nat}{xs:List PyData}{v:V}(b:Ab c ρ σ F H)(e:Ext F H F' H')(h:mE c xs v H F' H'):Ab c (ρ.set i (some (.l xs))) (σ.set i (some v)) F' H':=by
 obtain ⟨p,vs,rfl,h1,h2,h3,h4⟩:=h
 refine (b.ext e).setF ⟨p,vs,rfl,h2,h3,aW b.h0 h1,h4⟩ fun _ j a' _ ha' ho=>?_
 obtain ⟨w,hw,q⟩:=b.slot j a' ha'
 rw[hw]
 intro z
 cases z
 obtain ⟨p',o',e',q1,_⟩:=q.at ho
 cases e'
 rw[h1] at q1
 cases q1
theorem Ab.putO{c:Ct}{ρ:Sg}{σ:L2.St}{F H:Hp}{i:Nat}{a a':A}{p:Addr}{o:HO}(b:Ab c ρ σ F H)(hi:ρ[i]? = some (some a))(ho:a.own=true)(hp:σ[i]? = some (some (.ref p)))(ho':a'.own=true)(hy:AO c F (upd H p o) a' (.ref p)) :
  Ab c (ρ.set i (some a')) σ F (upd H p o):=by
 obtain ⟨v,h1,q⟩:=b.slot i _ hi
 rw[hp] at h1
 cases h1
 obtain ⟨p',o',e',h2,h3,h4⟩:=q.at ho
 cases e'
 have other:∀ (j:Nat) (a:A) (w:V),j≠i->ρ[j]? = some (some a)->σ[j]? = some (some w)->AO c F H a w->AO c F (upd H p o) a w:=by
  intro j a2 w hj ha hw q2
  by_cases own:a2.own=true
  ·refine q2.off fun z=>?_
   subst z
   exact b.apart j i _ _ hj ha hi own ho (by rw[hw,hp])
  ·cases a2 with
   | l zs=>exact absurd rfl own
   | m zs=>exact absurd rfl own
   | d x=>exact q2
   | x e=>exact q2
   | g k n f=>exact q2
   | k S=>exact q2
   | f S=>exact q2
 exact {
  len:=by rw[List.length_set];exact b.len
  fh:=fun a o z=>by rw[aK (fun w=>by subst w;rw[h3] at z;cases z)];exact b.fh a o z
  slot:=fun j a h=>by
   rcases get_set h with ⟨e,q,hl⟩|⟨ne,q⟩
   ·subst e
    cases q
    exact ⟨_,hp,hy⟩
   ·obtain ⟨w,hw,q2⟩:=b.slot j a q
    exact ⟨w,hw,other j a w (Ne.symm ne) q hw q2⟩
  apart:=fun j k a' b' hjk h1 h2 o1 o2=>by
   rcases get_set h1 with ⟨e,q,hl⟩|⟨ne,q⟩
   ·subst e
    cases q
    rcases get_set h2 with ⟨e',q',hl'⟩|⟨ne',q'⟩
    ·exact absurd e' hjk
    ·exact b.apart _ k _ b' hjk hi q' ho o2
   ·rcases get_set h2 with ⟨e',q',hl'⟩|⟨ne',q'⟩
    ·subst e'
     exact b.apart j _ a' _ hjk q hi o1 ho
    ·exact b.apart j k a' b' hjk q q' o1 o2
  f0:=b.f0
  h0:=fun a o z=>by rw[aK (fun w=>by subst w;rw[h4] at z;cases z)];exact b.h0 a o z
  n0:=b.n0
  t0:=b.t0}
theorem Ab.putL{c:Ct}{ρ:Sg}{σ:L2.St}{F H:Hp}{i:Nat}{xs ys:List PyData}{p:Addr}{vs:List V}(b:Ab c ρ σ F H)(hi:ρ[i]? = some (some (.l xs)))(hp:σ[i]? = some (some (.ref p)))(hy:DatVs c.K F vs ys) :
  Ab c (ρ.set i (some (.l ys))) σ F (upd H p (.lst vs)):=by
 obtain ⟨v,h1,p',us,rfl,h2,h3,h4,h5⟩:=b.slot i _ hi
 rw[hp] at h1
 cases h1
 exact b.putO hi rfl hp rfl ⟨p,vs,rfl,aS,h3,h4,hy⟩
theorem Ab.putM{c:Ct}{ρ:Sg}{σ:L2.St}{F H:Hp}{i:Nat}{kvs kvs':List (PyData×PyData)}{p:Addr}{es:List Ent}{ep:Nat}(b:Ab c ρ σ F H)(hi:ρ[i]? = some (some (.m kvs)))(hp:σ[i]? = some (some (.ref p)))(hy:MapRel c.K F es kvs') :
  Ab c (ρ.set i (some (.m kvs'))) σ F (upd H p (bL c.w p es ep)):=by
 obtain ⟨v,h1,p',us,rfl,h2,h3,h4,h5⟩:=b.slot i _ hi
 rw[hp] at h1
 cases h1
 exact b.putO hi rfl hp rfl ⟨p,es,rfl,⟨ep,aS⟩,h3,h4,hy⟩
theorem Ab.setM{c:Ct}{ρ:Sg}{σ:L2.St}{F H F' H':Hp}{i:Nat}{kvs:List (PyData×PyData)}{p:Addr}{es:List Ent}{ep:Nat}(b:Ab c ρ σ F H)(e:Ext F H F' H')(h1:H p=none)(h2:H' p=some (bL c.w p es ep))(h3:F' p=none)(h4:MapRel c.K F' es kvs):Ab c (ρ.set i (some (.m kvs))) (σ.set i (some (.ref p))) F' H':=by
 refine (b.ext e).setF ⟨p,es,rfl,⟨ep,h2⟩,h3,aW b.h0 h1,h4⟩ fun _ j a' _ ha' ho=>?_
 obtain ⟨w,hw,q⟩:=b.slot j a' ha'
 rw[hw]
 intro z
 cases z
 obtain ⟨p',o',e',q1,_⟩:=q.at ho
 cases e'
 rw[h1] at q1
 cases q1
noncomputable def fz(i:Nat)(ρ:Sg):Sg:=match ρ[i]? with
 | some (some (.l xs))=>ρ.set i (some (.d (.list xs)))
 | _=>ρ
theorem Ab.publ{c:Ct}{ρ:Sg}{σ:L2.St}{F H:Hp}{i:Nat}{a0 a1:A}{p:Addr}{o:HO}(b:Ab c ρ σ F H)(hi:ρ[i]? = some (some a0))(hp:σ[i]? = some (some (.ref p)))(ow:a0.own=true)(h2:H p=some o)(h3:F p=none)(h4:c.H0 p=none)(no:a1.own=false)(hr:AO c (upd F p o) H a1 (.ref p)):Ab c (ρ.set i (some a1)) σ (upd F p o) H:=by
 have sf:aF F (upd F p o):=aF.upd h3
 exact {
  len:=by rw[List.length_set];exact b.len
  fh:=fun a o' z=>by
   by_cases w:a=p
   ·subst w;rw[aS] at z;rw[h2];exact z
   ·rw[aK w] at z;exact b.fh a o' z
  slot:=fun j a h=>by
   rcases get_set h with ⟨e,q,hl⟩|⟨ne,q⟩
   ·subst e
    cases q
    exact ⟨_,hp,hr⟩
   ·obtain ⟨w,hw,q2⟩:=b.slot j a q
    refine ⟨w,hw,?_⟩
    have off:∀ r,a.own=true->w=.ref r->F r=none->upd F p o r=none:=fun r oa e f=>by
     rw[aK]
     ·exact f
     ·intro z
      subst z
      exact b.apart j i _ _ (Ne.symm ne) q hi oa ow (by rw[hw,hp,e])
    cases a with
    | l zs=>obtain ⟨r,ws,e,q1,q2,q3,q4⟩:=q2;exact ⟨r,ws,e,q1,off r rfl e q2,q3,q4.same sf⟩
    | m kvs=>obtain ⟨r,ws,e,q1,q2,q3,q4⟩:=q2;exact ⟨r,ws,e,q1,off r rfl e q2,q3,q4.same sf⟩
    | d x=>exact DatV.same sf q2
    | x e=>exact AF.same (g:=c.g) (K:=c.K) (mg:=c.mg) (a:=.x e) sf q2
    | g k n f=>exact AF.same (g:=c.g) (K:=c.K) (mg:=c.mg) (a:=.g k n f) sf q2
    | k S=>obtain ⟨S,f,cl,doc,pm,cc,ct,h0,h1,h2,h3,h4⟩:=q2;exact ⟨S,f,cl,doc,pm,cc,ct,h0,h1,sf _ _ h2,sf _ _ h3,h4⟩
    | f kvs=>exact AF.same (g:=c.g) (K:=c.K) (mg:=c.mg) (a:=.f kvs) sf q2
  apart:=fun j k a' b' hjk h1 h2 o1 o2=>by
   rcases get_set h1 with ⟨e,q,hl⟩|⟨ne,q⟩
   ·cases q;rw[no] at o1;cases o1
   ·rcases get_set h2 with ⟨e',q',hl'⟩|⟨ne',q'⟩
    ·cases q';rw[no] at o2;cases o2
    ·exact b.apart j k a' b' hjk q q' o1 o2
  f0:=fun a o z=>sf a o (b.f0 a o z)
  h0:=b.h0
  n0:=fun a z n=>by
   by_cases w:a=p
   ·subst w;exact .inl h4
   ·rw[aK w] at n;exact b.n0 a z n
  t0:=b.t0}
theorem Ab.frz{c:Ct}{ρ:Sg}{σ:L2.St}{F H:Hp}(b:Ab c ρ σ F H)(i:Nat):∃ F',aF F F'/\Ab c (fz i ρ) σ F' H:=by
 unfold fz
 split
 ·rename_i xs hi
  obtain ⟨v,hp,p,vs,rfl,h2,h3,h4,h5⟩:=b.slot i _ hi
  exact ⟨_,aF.upd h3,b.publ hi hp rfl h2 h3 h4 rfl (.lst (SqL.of aS) (h5.same (aF.upd h3)))⟩
 ·exact ⟨F,bR F,b⟩
noncomputable def aFO:PyData->PyData->R PyData
 | .int i,.int j=>.ok (.int (i+j))
 | _,_=>.bad
section
variable{X:Cx}{c:Ct}{E:XK}{e a b:Expr}{st:Stmt}{rest:List Stmt}{pos:Pos}
def sFz(i:Nat)(f:Sg->R Fw):Sg->R Fw:=fun ρ=>f (fz i ρ)
theorem lQ(i:Nat){f:Sg->R Fw}(h:PSf X c E st f):PSf X c E st (sFz i f):=PS.imp h fun D σ H zz0=>by
 obtain ⟨ρ,F,ab,k⟩:=zz0
 obtain ⟨F',s,ab'⟩:=ab.frz i
 refine ⟨fz i ρ,F',ab',?_⟩
 have k':Rk c E F H (f (fz i ρ)) (eK c F D):=k
 cases q:f (fz i ρ) with
 | bad=>rw[q] at k';exact k'
 | ok w=>rw[q] at k';exact eK.same s k'
 | ex e=>rw[q] at k';exact k'
noncomputable def sNx:Sg->R Fw:=fun ρ=>.ok (.nx ρ)
def aE(f g:Sg->R Fw):Sg->R Fw:=fun ρ=>(f ρ).bind fun w=>match w with
 | .nx ρ'=>g ρ'
 | w=>.ok w
theorem bX:kU X c E [] sNx:=PSs.imp L2.bX fun D σ H ⟨ρ,F,ab,k⟩=>Rk.ok k σ F H (bR F) ab
theorem aT{f:Sg->R Fw}(h:PSf X c E st f):kU X c E [st] f:=L2.aT h
theorem aG{f g:Sg->R Fw}(h:PSf X c E st f)(h2:kU X c E rest g):kU X c E (st::rest) (aE f g):=PSs.imp (L2.aG h h2) fun D σ H zz0=>by
 obtain ⟨ρ,F,ab,k⟩:=zz0
 refine ⟨ρ,F,ab,(Rk.bind k).imp fun w _ q=>?_⟩
 cases w with
 | nx ρ'=>
  intro σ' F' H' s ab'
  refine ⟨ρ',F',ab',?_⟩
  have q':Rk c E F H (g ρ') (eK c F D):=q
  cases eg:g ρ' with
  | bad=>rw[eg] at q';exact q'
  | ok w=>rw[eg] at q';exact eK.same s q'
  | ex e=>rw[eg] at q';exact q'
 | bk ρ'=>exact q
 | ct ρ'=>exact q
 | rt a=>exact q
def bN(f:Sg->R A):Sg->R Fw:=fun ρ=>(f ρ).bind fun a=>.ok (.rt a)
theorem cG{f:Sg->R A}(h:PV X c E e f):PSf X c E (.Return (some e) pos) (bN f):=PS.imp (L2.cG h) fun D σ H ⟨ρ,F,ab,k⟩=>
 ⟨ρ,F,ab,(Rk.bind k).imp fun a _ q v F' H' s r=>Rk.ok q v F' H' (ab.all.trans s) (AR.of r)⟩
noncomputable def aFP:Sg->R Fw:=fun _=>.ok (.rt (.d .none))
def sIf(t:Sg->R Bool)(f g:Sg->R Fw):Sg->R Fw:=fun ρ=>(t ρ).bind fun b=>if b=true then f ρ else g ρ
theorem Rk.fw{F F1 H H1:Hp}{D:kA}{r:R Fw}(s:aF F F1)(k:Rk c E F H r (eK c F D)):Rk c E F1 H1 r (eK c F1 D):=by
 cases r with
 | bad=>exact k
 | ok w=>exact eK.same s k
 | ex e=>exact k
theorem cT{q:Expr}{sa sb:List Stmt}{t:Sg->R Bool}{f g:Sg->R Fw}(hq:PTf X c E q t)(ha:kU X c E sa f)(hb:kU X c E sb g):PSf X c E (.If q sa sb pos) (sIf t f g):=PS.imp (L2.cT hq ha hb) fun D σ H zz0=>by
 obtain ⟨ρ,F,ab,k⟩:=zz0
 refine ⟨ρ,F,ab,(Rk.bind k).imp fun b _ q F' H' s=>?_⟩
 cases b with
 | true=>exact p8 ⟨ρ,F',ab.ext s,Rk.fw s.ff q⟩
 | false=>exact p7 ⟨ρ,F',ab.ext s,Rk.fw s.ff q⟩
def bI(i:Nat)(f:Sg->R A):Sg->R Fw:=fun ρ=>(f ρ).bind fun a=>.ok (.nx (ρ.set i (some a)))
theorem aO{i:Nat}{f:Sg->R A}(h:PS X st (gY (tV (uL c) c E f) (gE i))):PSf X c E st (bI i f):=PS.imp h fun D σ H ⟨ρ,F,ab,k⟩=>
 ⟨ρ,F,ab,(Rk.bind k).imp fun a _ q v F' H' s r=>Rk.ok q _ F' H' s.ff ((ab.ext s).setA r)⟩
def cB(i:Nat)(f:Sg->R (List PyData)):Sg->R Fw:=fun ρ=>(f ρ).bind fun xs=>.ok (.nx (ρ.set i (some (.l xs))))
theorem dG{i:Nat}{f:Sg->R (List PyData)}(h:PS X st (gY (tV (mE c) c E f) (gE i))):PSf X c E st (cB i f):=PS.imp h fun D σ H ⟨ρ,F,ab,k⟩=>
 ⟨ρ,F,ab,(Rk.bind k).imp fun a _ q v F' H' s r=>Rk.ok q _ F' H' s.ff (ab.setN s r)⟩
def aAO(f:Sg->R A):Sg->R Fw:=fun ρ=>(f ρ).bind fun _=>.ok (.nx ρ)
theorem fM{f:Sg->R A}(h:PS X st (mP (tV (uL c) c E f))):PSf X c E st (aAO f):=PS.imp h fun D σ H ⟨ρ,F,ab,k⟩=>
 ⟨ρ,F,ab,(Rk.bind k).imp fun a _ q v F' H' s r=>Rk.ok q _ F' H' s.ff (ab.ext s)⟩
def e8(i:Nat)(f:Sg->R PyData):Sg->R Fw:=fun ρ=>match ρ[i]? with
 | some (some (.l xs))=>(f ρ).bind fun x=>if xs.length < 16777216 then .ok (.nx (ρ.set i (some (.l (xs++[x]))))) else .bad
 | _=>.bad
theorem kW{i:Nat}{f:Sg->R PyData}(hK:X.K=c.K)(h:PS X st (mP (tBM X.K "list" sJ (fG i) (cS (tV (bO c) c E f) eJ)))):PSf X c E st (e8 i f):=PS.imp h fun D σ H ⟨ρ,F,ab,k⟩=>by
 unfold e8 at k
 split at k
 ·rename_i xs hi
  obtain ⟨v,hp,p,vs,rfl,h2,h3,h4,h5⟩:=ab.slot i _ hi
  refine ⟨_,hp,.inl ⟨rfl,vs,SqL.of h2⟩,ρ,F,ab,(Rk.bind k).imp fun x _ q u F1 H1 s1 r1=>?_⟩
  by_cases hz:xs.length < 16777216
  ·rw[if_pos hz] at q
   refine ⟨p,vs,u,rfl,rfl,s1.hh _ _ h2,by rw[h5.length,cD];exact hz,?_⟩
   exact Rk.ok q σ F1 _ s1.ff ((ab.ext s1).putL hi hp ((h5.same s1.ff).append (.cons r1 .nil)))
  ·rw[if_neg hz] at q;exact q.elim
 ·exact k.elim
def oC(i:Nat)(f g:Sg->R PyData):Sg->R Fw:=fun ρ=>(g ρ).bind fun x=>match ρ[i]? with
 | some (some (.l xs))=>(f ρ).bind fun k=>match k with
  | .int k=>match ixN xs.length k with
   | some j=>.ok (.nx (ρ.set i (some (.l (xs.set j x)))))
   | none=>.bad
  | _=>.bad
 | _=>.bad
theorem pB{K:Frag}{F:Hp}{x:V}{d:PyData}(h:DatV K F x d):∀ {vs:List V} {xs:List PyData} (j:Nat),DatVs K F vs xs->DatVs K F (vs.set j x) (xs.set j d)
 | _,_,_,.nil=>.nil
 | _,_,0,.cons _ t=>.cons h t
 | _,_,j+1,.cons q t=>.cons q (pB h j t)
theorem qQ{i:Nat}{f g:Sg->R PyData}(h:PS X st (gY (tV (bO c) c E g) (xZ (fG i) (tV (aQ c) c E f) aAF))):PSf X c E st (oC i f g):=PS.imp h fun D σ H ⟨ρ,F,ab,k⟩=>by
 refine ⟨ρ,F,ab,(Rk.bind k).imp fun x _ q v F1 H1 s1 r1=>?_⟩
 split at q
 ·rename_i xs hi
  have ab1:=ab.ext s1
  obtain ⟨_,hp,p,vs,rfl,h2,h3,h4,h5⟩:=ab1.slot i _ hi
  refine ⟨_,hp,ρ,F1,ab1,((Rk.bind q).ext s1).imp fun k _ q u F2 H2 s2 r2=>?_⟩
  have ab2:=ab1.ext s2
  cases k with
  | int kk=>
   have q':Rk c E F H (match ixN xs.length kk with|some j=>R.ok (.nx (ρ.set i (some (.l (xs.set j x)))))|none=>.bad) (eK c F D):=q
   clear q
   split at q'
   ·rename_i j hj
    obtain rfl:=aN.int_of r2
    refine ⟨p,vs,kk,j,rfl,rfl,s2.hh _ _ h2,by rw[h5.length];exact hj,?_⟩
    exact Rk.ok q' σ F2 _ (s1.trans s2).ff (ab2.putL hi hp (pB (DatV.same s2.ff r1) j (h5.same s2.ff)))
   ·exact q'.elim
  | _=>exact q.elim
 ·exact q.elim
def aG8(i:Nat)(g:PyData->PyData->R PyData)(f:Sg->R PyData):Sg->R Fw:=fun ρ=>(eV i ρ).bind fun x=>(f ρ).bind fun y=>(g x y).bind fun z=>.ok (.nx (ρ.set i (some (.d z))))
end
end Fl
namespace Fl
open PySem L2 PyProof.Rows
def Tg(c:Ct)(g:TG)(fs:PyData->Sg->Option Sg)(is:List Nat):Prop:=∀ (v:V) (x:PyData) (ρ ρ':Sg) (σ:L2.St) (F H:Hp) (Q:L2.St->Hp->Prop),Ab c ρ σ F H->DatV c.K F v x->fs x ρ=some ρ'->
 (∀ σ':L2.St,σ'.length=σ.length->(∀ j:Nat,j∉is->σ'[j]? = σ[j]?)->Ab c ρ' σ' F H->Q σ' H)->g v σ H Q
noncomputable def stN(i:Nat):PyData->Sg->Option Sg:=fun x ρ=>some (ρ.set i (some (.d x)))
theorem cN{c:Ct}(i:Nat):Tg c (gE i) (stN i) [i]:=fun v x ρ ρ' σ F H Q ab r e q=>by
 cases e
 exact q _ List.length_set (fun j hj=>List.getElem?_set_ne (by intro z;subst z;exact hj (by simp))) (ab.setA (a:=.d x) r)
noncomputable def stL:List (PyData->Sg->Option Sg)->List PyData->Sg->Option Sg
 | [],[],ρ=>some ρ
 | f::fs,x::xs,ρ=>(f x ρ).bind (stL fs xs)
 | _,_,_=>none
def Tgs(c:Ct)(g:TGs)(fs:List (PyData->Sg->Option Sg))(is:List Nat):Prop:=∀ (vs:List V) (xs:List PyData) (ρ ρ':Sg) (σ:L2.St) (F H:Hp) (Q:L2.St->Hp->Prop),Ab c ρ σ F H->DatVs c.K F vs xs->stL fs xs ρ=some ρ'->
 (∀ σ':L2.St,σ'.length=σ.length->(∀ j:Nat,j∉is->σ'[j]? = σ[j]?)->Ab c ρ' σ' F H->Q σ' H)->g vs σ H Q
theorem lR{c:Ct}:Tgs c aC5 [] []:=fun vs xs ρ ρ' σ F H Q ab r e q=>by
 cases xs with
 | nil=>cases e;exact ⟨by cases r;rfl,q σ rfl (fun _ _=>rfl) ab⟩
 | cons x t=>cases e
theorem eR{c:Ct}{g:TG}{gs:TGs}{f:PyData->Sg->Option Sg}{fs:List (PyData->Sg->Option Sg)}{is js:List Nat}(h:Tg c g f is)(h2:Tgs c gs fs js):Tgs c (aAB g gs) (f::fs) (is++js):=fun vs xs ρ ρ' σ F H Q ab r e q=>by
 cases r with
 | nil=>cases e
 | cons r1 r2=>
  rename_i x d vs ds
  have e':(f d ρ).bind (stL fs ds)=some ρ':=e
  cases e1:f d ρ with
  | none=>rw[e1] at e';cases e'
  | some ρ1=>
   rw[e1] at e'
   refine ⟨_,_,rfl,h _ _ ρ ρ1 σ F H _ ab r1 e1 fun σ1 l1 k1 ab1=>h2 _ _ ρ1 ρ' σ1 F H _ ab1 r2 e' fun σ2 l2 k2 ab2=>q σ2 (l2.trans l1) (fun j hj=>?_) ab2⟩
   rw[List.mem_append,not_or] at hj
   exact (k2 j hj.2).trans (k1 j hj.1)
noncomputable def stT(fs:List (PyData->Sg->Option Sg)):PyData->Sg->Option Sg:=fun x ρ=>match x with
 | .tuple xs=>stL fs xs ρ
 | _=>none
theorem sQ:∀ {fs:List (PyData->Sg->Option Sg)} {xs:List PyData} {ρ ρ':Sg},stL fs xs ρ=some ρ'->xs.length=fs.length
 | [],[],_,_,_=>rfl
 | [],_::_,_,_,h=>by cases h
 | _::_,[],_,_,h=>by cases h
 | f::fs,x::xs,ρ,ρ',h=>by
  have h':(f x ρ).bind (stL fs xs)=some ρ':=h
  cases e:f x ρ with
  | none=>rw[e] at h';cases h'
  | some ρ1=>
   rw[e] at h'
   have:=sQ (fs:=fs) (xs:=xs) h'
   simp[this]
theorem nH{c:Ct}{gs:TGs}{fs:List (PyData->Sg->Option Sg)}{is:List Nat}{n:Nat}{K:Frag}(hK:K=c.K)(h:Tgs c gs fs is)(hn:fs.length=n):Tg c (aC6 K n gs) (stT fs) is:=fun v x ρ ρ' σ F H Q ab r e q=>by
 cases x with
 | tuple xs=>
  obtain ⟨a,vs,rfl,h1,h2⟩:=r.tup_of
  subst hK
  exact ⟨a,vs,rfl,h1.same ab.fh,by rw[h2.length,sQ e,hn],h vs xs ρ ρ' σ F H Q ab h2 e q⟩
 | _=>cases e
structure Yld(K:Frag)(J:It)(F B:Hp)(xs:List PyData):Prop where
 len:xs.length<=sizeLine
 go:∀ (i:Nat) F1 H1,aF F F1->aF F1 H1->aF B H1->i < xs.length->J.go i H1
 yld:∀ (i:Nat) F1 H1 v H2 x,aF F F1->aF F1 H1->aF B H1->J.yld i H1 v H2->xs[i]? = some x->∃ F2,Ext F1 H1 F2 H2/\DatV K F2 v x
 stop:∀ F1 H1,aF F F1->aF F1 H1->aF B H1->J.stop xs.length H1
def tI(c:Ct)(E:XK)(f:Sg->R (List PyData)):TI:=fun σ H Rr=>∃ ρ F,Ab c ρ σ F H/\Rk c E F H (f ρ) fun xs=>∀ J B F' H',Ext F H F' H'->aF B H'->Yld c.K J F' B xs->Rr J H'
def tI0(c:Ct)(E:XK)(f:Sg->R (List PyData)):TI:=fun σ H Rr=>∃ ρ F,Ab c ρ σ F H/\Rk c E F H (f ρ) fun xs=>∀ J F' H',Ext F H F' H'->Yld c.K J F' (fun _=>none) xs->Rr J H'
theorem PI.imp{X:Cx}{tg e:Expr}{t t':TI}(h:PI X tg e t)(i:∀ σ H Q,t' σ H Q->t σ H Q):PI X tg e t':=fun pins s σ H Q I q=>h pins s σ H Q I (i σ H Q q)
abbrev PIf(X:Cx)(c:Ct)(E:XK)(tg e:Expr)(f:Sg->R (List PyData)):Prop:=PI X tg e (tI c E f)
abbrev PI0(X:Cx)(c:Ct)(E:XK)(tg e:Expr)(f:Sg->R (List PyData)):Prop:=PI X tg e (tI0 c E f)
def kX{H:Hp}:aF (fun _=>none) H:=fun _ _ z=>nomatch z
noncomputable def aY:PyData->R (List PyData)
 | .list xs=>if xs.length<=16777216 then .ok xs else .bad
 | .tuple xs=>if xs.length<=16777216 then .ok xs else .bad
 | .str z=>if z.cps.toList.length<=16777216 then .ok (z.cps.toList.map fun u=>.str ⟨#[u]⟩) else .bad
 | _=>.bad
theorem qR{K:Frag}{F B H:Hp}{a:Addr}{vs:List V}{xs:List PyData}(hz:xs.length<=16777216)(hs:∀ H1,aF F H1->aF B H1->SqL K H1 a vs)(hd:DatVs K F vs xs):Yld K (Itl K a) F B xs where
 len:=by rw[cD];exact hz
 go:=fun i F1 H1 h1 h2 h3 hi=>by
  have q:=hs H1 (fun x o z=>h2 x o (h1 x o z)) h3
  exact ⟨vs,vs[i]'(by rw[hd.length];exact hi),q,by simp⟩
 yld:=fun i F1 H1 v H2 x h1 h2 h3 y e=>by
  obtain ⟨rfl,y⟩:=y
  have q:=y vs (hs _ (fun x o z=>h2 x o (h1 x o z)) h3)
  obtain ⟨d,e2,r⟩:=hd.get q
  rw[e] at e2
  cases e2
  exact ⟨F1,Ext.refl h2,r.same h1⟩
 stop:=fun F1 H1 h1 h2 h3=>⟨vs,hs H1 (fun x o z=>h2 x o (h1 x o z)) h3,by rw[hd.length];exact Nat.le_refl _⟩
theorem sR{K:Frag}{F B:Hp}{a:Addr}{vs:List V}{xs:List PyData}(hz:xs.length<=16777216)(hs:SqT K F a vs)(hd:DatVs K F vs xs):Yld K (Itt K a) F B xs where
 len:=by rw[cD];exact hz
 go:=fun i F1 H1 h1 h2 h3 hi=>by
  have q:=hs.same (H':=H1) (fun x o z=>h2 x o (h1 x o z))
  exact ⟨vs,vs[i]'(by rw[hd.length];exact hi),q,by simp⟩
 yld:=fun i F1 H1 v H2 x h1 h2 h3 y e=>by
  obtain ⟨rfl,y⟩:=y
  have q:=y vs (hs.same (fun x o z=>h2 x o (h1 x o z)))
  obtain ⟨d,e2,r⟩:=hd.get q
  rw[e] at e2
  cases e2
  exact ⟨F1,Ext.refl h2,r.same h1⟩
 stop:=fun F1 H1 h1 h2 h3=>⟨vs,hs.same (fun x o z=>h2 x o (h1 x o z)),by rw[hd.length];exact Nat.le_refl _⟩
theorem sS{K:Frag}{F B:Hp}{z:Str}(hz:z.cps.toList.length<=16777216):Yld K (Its z) F B (z.cps.toList.map fun u=>.str ⟨#[u]⟩) where
 len:=by rw[cD,List.length_map];exact hz
 go:=fun i F1 H1 h1 h2 h3 hi=>by
  rw[List.length_map,Array.length_toList] at hi
  exact hi
 yld:=fun i F1 H1 v H2 x h1 h2 h3 y e=>by
  obtain ⟨rfl,u,hu,rfl⟩:=y
  rw[List.getElem?_map,Array.getElem?_toList,hu] at e
  cases e
  exact ⟨F1,Ext.refl h2,.str _⟩
 stop:=fun F1 H1 h1 h2 h3=>by
  show (z.cps.toList.map _).length=z.cps.size
  rw[List.length_map,Array.length_toList]
section
variable{X:Cx}{c:Ct}{E:XK}{tg e a b:Expr}{pos:Pos}
theorem aG9{f:Sg->R PyData}(hK:X.K=c.K)(h:PD X c E e f):PI0 X c E tg e (e1 aY f):=PI.imp (PI.or (vT h) (vZ h)) fun σ H Q ⟨ρ,F,ab,k⟩=>by
 have k':=Rk.bind k
 cases hf:f ρ with
 | bad=>rw[hf] at k';exact k'.elim
 | ex x=>rw[hf] at k';exact .inl ⟨ρ,F,ab,by rw[hf];exact k'⟩
 | ok d=>
  rw[hf] at k'
  have k2:=Rk.ok k'
  unfold aY at k2
  split at k2
  ·rename_i xs
   split at k2
   ·rename_i hz
    refine .inl ⟨ρ,F,ab,?_⟩
    rw[hf]
    intro v F' H' s r
    obtain ⟨p,vs,rfl,h1,h2⟩:=DatV.lst_of r
    refine ⟨p,rfl,.inl ⟨⟨vs,?_⟩,?_⟩⟩
    · rw [hK]; exact h1.same s.fh
    · rw [hK]; exact Rk.ok k2 _ F' H' s (qR (H := H') hz (fun H1 q _ => h1.same q) h2)
   ·exact k2.elim
  ·rename_i xs
   split at k2
   ·rename_i hz
    refine .inl ⟨ρ,F,ab,?_⟩
    rw[hf]
    intro v F' H' s r
    obtain ⟨p,vs,rfl,h1,h2⟩:=DatV.tup_of r
    refine ⟨p,rfl,.inr ⟨⟨vs,?_⟩,?_⟩⟩
    · rw [hK]; exact h1.same s.fh
    · rw [hK]; exact Rk.ok k2 _ F' H' s (sR hz h1 h2)
   ·exact k2.elim
  ·rename_i z
   split at k2
   ·rename_i hz
    refine .inr ⟨ρ,F,ab,?_⟩
    rw[hf]
    intro v F' H' s r
    obtain rfl:=DatV.str_of r
    exact ⟨z,rfl,Rk.ok k2 _ F' H' s (sS hz)⟩
   ·exact k2.elim
  ·exact k2.elim
theorem qS{f:Sg->R PyData}(hK:X.K=c.K)(h:PR X c E e f):PIf X c E tg e (e1 aY f):=PI.imp (PI.or (vT h) (vZ h)) fun σ H Q ⟨ρ,F,ab,k⟩=>by
 have k':=Rk.bind k
 cases hf:f ρ with
 | bad=>rw[hf] at k';exact k'.elim
 | ex x=>rw[hf] at k';exact .inl ⟨ρ,F,ab,by rw[hf];exact k'⟩
 | ok d=>
  rw[hf] at k'
  have k2:=Rk.ok k'
  unfold aY at k2
  split at k2
  ·rename_i xs
   split at k2
   ·rename_i hz
    refine .inl ⟨ρ,F,ab,?_⟩
    rw[hf]
    intro v F' H' s r
    obtain ⟨p,vs,rfl,h1,h2⟩:=aN.lst_of s.fh r
    refine ⟨p,rfl,.inl ⟨⟨vs,?_⟩,?_⟩⟩
    · rw [hK]; exact h1
    · rw [hK]; exact Rk.ok k2 _ H' F' H' s (bR _) (qR (H := H') hz (fun H1 _ q => h1.same q) h2)
   ·exact k2.elim
  ·rename_i xs
   split at k2
   ·rename_i hz
    refine .inl ⟨ρ,F,ab,?_⟩
    rw[hf]
    intro v F' H' s r
    obtain ⟨p,vs,rfl,h1,_,h2⟩:=aN.tup_of s.fh r
    refine ⟨p,rfl,.inr ⟨⟨vs,?_⟩,?_⟩⟩
    · rw [hK]; exact h1.same s.fh
    · rw [hK]; exact Rk.ok k2 _ H' F' H' s (bR _) (sR hz h1 h2)
   ·exact k2.elim
  ·rename_i z
   split at k2
   ·rename_i hz
    refine .inr ⟨ρ,F,ab,?_⟩
    rw[hf]
    intro v F' H' s r
    obtain rfl:=aN.str_of r
    exact ⟨z,rfl,Rk.ok k2 _ H' F' H' s (bR _) (sS hz)⟩
   ·exact k2.elim
  ·exact k2.elim
noncomputable def iM(lo:Int)(n:Nat):List PyData:=(List.range n).map fun i:Nat=>.int (lo+i)
def gT(lo hi:Int):R (List PyData):=if -4611686018427387904<=lo/\lo < 4611686018427387904 /\ -4611686018427387904<=hi/\hi < 4611686018427387904/\hi - lo<=16777216 then .ok (iM lo (hi - lo).toNat) else .bad
def dN(f:Sg->R PyData):Sg->R (List PyData):=fun ρ=>(f ρ).bind fun x=>match x with
 | .int j=>gT 0 j
 | _=>.bad
def aBO(f g:Sg->R PyData):Sg->R (List PyData):=fun ρ=>(f ρ).bind fun x=>(g ρ).bind fun y=>match x,y with
 | .int i,.int j=>gT i j
 | _,_=>.bad
theorem wD{K:Frag}{F B:Hp}{lo:Int}{n:Nat}(hz:n<=16777216):Yld K (Itr lo n) F B (iM lo n) where
 len:=by unfold iM;rw[cD,List.length_map,List.length_range];exact hz
 go:=fun i F1 H1 h1 h2 h3 hi=>by unfold iM at hi;rw[List.length_map,List.length_range] at hi;exact hi
 yld:=fun i F1 H1 v H2 x h1 h2 h3 y e=>by
  obtain ⟨rfl,rfl⟩:=y
  unfold iM at e
  rw[List.getElem?_map] at e
  cases q:(List.range n)[i]? with
  | none=>rw[q] at e;cases e
  | some j=>
   rw[q] at e
   cases e
   obtain ⟨hl,hv⟩:=List.getElem?_eq_some_iff.mp q
   rw[List.getElem_range] at hv
   subst hv
   exact ⟨F1,Ext.refl h2,.int _⟩
 stop:=fun F1 H1 h1 h2 h3=>by show n<=_;unfold iM;rw[List.length_map,List.length_range];exact Nat.le_refl _
theorem oD{f:Sg->R PyData}(h:PI X tg e (aAC (cS (tV (aQ c) c E f) eJ))):PI0 X c E tg e (dN f):=PI.imp h fun σ H Q ⟨ρ,F,ab,k⟩=>by
 refine ⟨ρ,F,ab,(Rk.bind k).imp fun x _ q v F' H' s r=>?_⟩
 cases x with
 | int j=>
  have q':Rk c E F H (gT 0 j) _:=q
  unfold gT at q'
  split at q'
  ·rename_i hz
   obtain rfl:=aN.int_of r
   refine ⟨j,rfl,by omega,by omega,?_⟩
   have e0:(j - 0).toNat=j.toNat:=by rw[Int.sub_zero]
   rw[<-e0]
   exact Rk.ok q' _ F' H' s (wD (by omega))
  ·exact q'.elim
 | _=>exact q.elim
end
end Fl
namespace Fl
open PySem L2 PyProof.Rows
noncomputable def fX(js:List (Option Nat))(ρ:Sg):Sg:=js.map fun o=>o.bind fun j=>(ρ[j]?).join
theorem oE{α:Type}{js:List (Option Nat)}{ρ:List (Option α)}{i:Nat}{a:α}(h:(js.map fun o=>o.bind fun j=>(ρ[j]?).join)[i]? = some (some a)):∃ j,js[i]? = some (some j)/\ρ[j]? = some (some a):=by
 rw[List.getElem?_map] at h
 cases e:js[i]? with
 | none=>rw[e] at h;cases h
 | some o=>
  rw[e] at h
  have h':(o.bind fun j=>(ρ[j]?).join)=some a:=Option.some.inj h
  cases o with
  | none=>cases h'
  | some j=>
   have h2:(ρ[j]?).join=some a:=h'
   cases e2:ρ[j]? with
   | none=>rw[e2] at h2;cases h2
   | some o2=>rw[e2] at h2;have:o2=some a:=h2;subst this;exact ⟨j,rfl,e2⟩
theorem oF{α:Type}{js:List (Option Nat)}{ρ:List (Option α)}{i j:Nat}{a:α}(h:js[i]? = some (some j))(h2:ρ[j]? = some (some a)):(js.map fun o=>o.bind fun j=>(ρ[j]?).join)[i]? = some (some a):=by
 rw[List.getElem?_map,h]
 show some ((ρ[j]?).join)=_
 rw[h2];rfl
def oG(js:List (Option Nat)):Prop:=∀ (i k j:Nat),js[i]? = some (some j)->js[k]? = some (some j)->i=k
theorem nI{js:List (Option Nat)}(h:js.Pairwise fun a b=>a=none\/a≠b):oG js:=fun i k j h1 h2=>by
 obtain ⟨l1,e1⟩:=List.getElem?_eq_some_iff.mp h1
 obtain ⟨l2,e2⟩:=List.getElem?_eq_some_iff.mp h2
 rw[List.pairwise_iff_getElem] at h
 rcases Nat.lt_trichotomy i k with q|q|q
 ·rcases h i k l1 l2 q with z|z
  · rw [e1] at z; cases z
  · exact absurd (e1.trans e2.symm) z
 ·exact q
 ·rcases h k i l2 l1 q with z|z
  · rw [e2] at z; cases z
  · exact absurd (e2.trans e1.symm) z
theorem Ab.cap{c:Ct}{ρ:Sg}{σ σ0:L2.St}{F H:Hp}{js:List (Option Nat)}(b:Ab c ρ σ F H)(ho:oG js)(k:cU (f6 js σ) σ0):Ab c (fX js ρ) σ0 F H where
 len:=by rw[k.1];unfold fX f6;rw[List.length_map,List.length_map]
 fh:=b.fh
 slot:=fun i a h=>by
  obtain ⟨j,h1,h2⟩:=oE h
  obtain ⟨v,h3,h4⟩:=b.slot j a h2
  exact ⟨v,k.2 i v (oF h1 h3),h4⟩
 apart:=fun i i' a a' hne h h' o o'=>by
  obtain ⟨j,h1,h2⟩:=oE h
  obtain ⟨j',h1',h2'⟩:=oE h'
  have hj:j≠j':=fun z=>hne (ho i i' j h1 (by rw[h1',z]))
  obtain ⟨v,h3,_⟩:=b.slot j a h2
  obtain ⟨v',h3',_⟩:=b.slot j' a' h2'
  rw[k.2 i v (oF h1 h3),k.2 i' v' (oF h1' h3'),<-h3,<-h3']
  exact b.apart j j' a a' hj h2 h2' o o'
 f0:=b.f0
 h0:=b.h0
 n0:=b.n0
 t0:=b.t0
noncomputable def R.noEx{α:Type}:R α->R α
 | .ex _=>.bad
 | r=>r
@[simp] theorem R.noEx_ok{α:Type}(a:α):(R.ok a).noEx=.ok a:=id rfl
noncomputable def mH{α:Type}:Option α->R α
 | some a=>.ok a
 | none=>.bad
@[simp] theorem pC{α:Type}(a:α):mH (some a)=.ok a:=id rfl
noncomputable def compL(fs:PyData->Sg->Option Sg)(ft:Sg->R Bool)(fe:Sg->R PyData)(ρ0:Sg):List PyData->R (List PyData)
 | []=>.ok []
 | x::t=>(mH (fs x ρ0)).bind fun ρ1=>(ft ρ1).noEx.bind fun b=>if b=true then (fe ρ1).noEx.bind fun y=>(compL fs ft fe ρ0 t).bind fun ys=>.ok (y::ys) else compL fs ft fe ρ0 t
theorem j3{fs:PyData->Sg->Option Sg}{ft:Sg->R Bool}{fe:Sg->R PyData}{ρ0:Sg}{e:Er}:∀ {xs:List PyData},compL fs ft fe ρ0 xs≠.ex e
 | []=>fun h=>by cases h
 | x::t=>fun h=>by
  unfold compL at h
  cases h1:fs x ρ0 with
  | none=>rw[h1] at h;cases h
  | some ρ1=>
   rw[h1] at h
   have h:((ft ρ1).noEx.bind fun b=>if b=true then (fe ρ1).noEx.bind fun y=>(compL fs ft fe ρ0 t).bind fun ys=>.ok (y::ys) else compL fs ft fe ρ0 t)=.ex e:=h
   cases h2:ft ρ1 with
   | bad=>rw[h2] at h;cases h
   | ex _=>rw[h2] at h;cases h
   | ok b=>
    rw[h2] at h
    have h:(if b=true then (fe ρ1).noEx.bind fun y=>(compL fs ft fe ρ0 t).bind fun ys=>.ok (y::ys) else compL fs ft fe ρ0 t)=.ex e:=h
    cases b with
    | false=>exact j3 (xs:=t) h
    | true=>
     have h:((fe ρ1).noEx.bind fun y=>(compL fs ft fe ρ0 t).bind fun ys=>.ok (y::ys))=.ex e:=h
     cases h3:fe ρ1 with
     | bad=>rw[h3] at h;cases h
     | ex _=>rw[h3] at h;cases h
     | ok y=>
      rw[h3] at h
      have h:((compL fs ft fe ρ0 t).bind fun ys=>.ok (y::ys))=.ex e:=h
      cases h4:compL fs ft fe ρ0 t with
      | bad=>rw[h4] at h;cases h
      | ex e'=>exact j3 (xs:=t) (e:=e') h4
      | ok ys=>rw[h4] at h;cases h
theorem uN{fs:PyData->Sg->Option Sg}{ft:Sg->R Bool}{fe:Sg->R PyData}{ρ0:Sg}{x:PyData}{t ys:List PyData}(h:compL fs ft fe ρ0 (x::t)=.ok ys) :
  ∃ ρ1 b,fs x ρ0=some ρ1/\ft ρ1=.ok b/\((b=true/\∃ y zs,fe ρ1=.ok y/\compL fs ft fe ρ0 t=.ok zs/\ys=y::zs)\/(b=false/\compL fs ft fe ρ0 t=.ok ys)):=by
 unfold compL at h
 cases h1:fs x ρ0 with
 | none=>rw[h1] at h;cases h
 | some ρ1=>
  rw[h1] at h
  have h:((ft ρ1).noEx.bind fun b=>if b=true then (fe ρ1).noEx.bind fun y=>(compL fs ft fe ρ0 t).bind fun ys=>.ok (y::ys) else compL fs ft fe ρ0 t)=.ok ys:=h
  cases h2:ft ρ1 with
  | bad=>rw[h2] at h;cases h
  | ex _=>rw[h2] at h;cases h
  | ok b=>
   rw[h2] at h
   have h:(if b=true then (fe ρ1).noEx.bind fun y=>(compL fs ft fe ρ0 t).bind fun ys=>.ok (y::ys) else compL fs ft fe ρ0 t)=.ok ys:=h
   refine ⟨ρ1,b,rfl,h2,?_⟩
   cases b with
   | false=>exact .inr ⟨rfl,h⟩
   | true=>
    refine .inl ⟨rfl,?_⟩
    have h:((fe ρ1).noEx.bind fun y=>(compL fs ft fe ρ0 t).bind fun ys=>.ok (y::ys))=.ok ys:=h
    cases h3:fe ρ1 with
    | bad=>rw[h3] at h;cases h
    | ex _=>rw[h3] at h;cases h
    | ok y=>
     rw[h3] at h
     have h:((compL fs ft fe ρ0 t).bind fun ys=>.ok (y::ys))=.ok ys:=h
     cases h4:compL fs ft fe ρ0 t with
     | bad=>rw[h4] at h;cases h
     | ex e'=>rw[h4] at h;cases h
     | ok zs=>rw[h4] at h;cases h;exact ⟨y,zs,rfl,rfl,rfl⟩
def dL(js:List (Option Nat))(fi:Sg->R (List PyData))(fs:PyData->Sg->Option Sg)(ft:Sg->R Bool)(fe:Sg->R PyData):Sg->R (List PyData):=fun ρ=>(fi ρ).bind fun xs=>compL fs ft fe (fX js ρ) xs
noncomputable def eM:Sg->R Bool:=fun _=>.ok true
section
variable{X:Cx}{c:Ct}{E:XK}{e a b:Expr}{pos:Pos}
theorem fN:L2.PIf X [] (tTf c E eM):=fun pins s σ H Q I ⟨ρ,F,ab,k⟩=>L2.fN pins s σ H Q I (Rk.ok k F H (Ext.refl ab.fh))
theorem yP{js:List (Option Nat)}{is:List Nat}{σ σ0 σ1:L2.St}(k:cU (f6 js σ) σ0)(hl:σ1.length=σ0.length)(h:∀ j:Nat,j∉is->σ1[j]? = σ0[j]?)(hi:∀ i∈is,js[i]? = some none):cU (f6 js σ) σ1:=
 ⟨hl.trans k.1,fun i v e=>by
  by_cases q:i∈is
  ·unfold f6 at e
   rw[List.getElem?_map,hi i q] at e
   cases e
  ·rw[h i q];exact k.2 i v e⟩
theorem pD{N:List Str}{js:List (Option Nat)}{scope:Scope}{tg elt:Expr}{ifs:List Expr}{fi:Sg->R (List PyData)}{fs:PyData->Sg->Option Sg}{ft:Sg->R Bool}{fe:Sg->R PyData}{is:List Nat}(ho:oG js)(hi:∀ i∈is,js[i]? = some none)
  (hb:∀ (cl:List (Str×Addr)) (C:Addr) (s:Shared) (H0:Hp) (fp:List Addr),∃ g,PG (dS X N scope cl C s H0 fp) tg g/\Tg c g fs is/\L2.PIf (dS X N scope cl C s H0 fp) ifs (tTf c E0 ft)/\PD (dS X N scope cl C s H0 fp) c E0 elt fe)
  {σ:L2.St} {H:Hp} {Q:VK} (h:tV (mE c) c E (dL js fi fs ft fe) σ H Q):mX X N scope js tg elt ifs (tI c E fi) σ H Q:=by
 obtain ⟨ρ,F,ab,k⟩:=h
 refine ⟨ρ,F,ab,(Rk.bind k).imp fun xs _ q J B F1 H1 s1 sb yl=>?_⟩
 cases hc:compL fs ft fe (fX js ρ) xs with
 | bad=>rw[hc] at q;exact q.elim
 | ex e=>exact absurd hc j3
 | ok ys=>
  rw[hc] at q
  refine aBD (n:=xs.length) (fun i acc H'=>∃ F',Ext F1 H1 F' H'/\acc.length<=i/\∃ zs rest,DatVs c.K F' acc zs/\compL fs ft fe (fX js ρ) (xs.drop i)=.ok rest/\zs++rest=ys) yl.len ⟨F1,Ext.refl s1.fh,Nat.le_refl _,[],ys,.nil,hc,rfl⟩ ?_ ?_ ?_ ?_ ?_
  ·rintro i acc H' _ ⟨F',_,h,_⟩;exact h
  ·rintro i acc H' hlt ⟨F',e1,_⟩
   exact yl.go i F' H' e1.ff e1.fh (fun a o z=>e1.hh a o (sb a o z)) hlt
  ·rintro acc H' ⟨F',e1,_⟩
   exact yl.stop F' H' e1.ff e1.fh (fun a o z=>e1.hh a o (sb a o z))
  ·rintro i v acc Ha Hb hlt ⟨F',e1,hlen,zs,rest,hd,hr,hz⟩ hy
   obtain ⟨F2,e2,rx⟩:=yl.yld i F' Ha v Hb xs[i] e1.ff e1.fh (fun a o z=>e1.hh a o (sb a o z)) hy (List.getElem?_eq_getElem hlt)
   have hdr:xs.drop i=xs[i]::xs.drop (i+1):=List.drop_eq_getElem_cons hlt
   rw[hdr] at hr
   obtain ⟨ρ1,bb,hs,ht,hcase⟩:=uN hr
   intro cl C s H0 fp
   obtain ⟨g,hg,tg',hif,he⟩:=hb cl C s H0 fp
   refine ⟨g,_,_,hg,hif,he,fun σ0 k0=>?_⟩
   have ab0:Ab c (fX js ρ) σ0 F2 Hb:=(ab.ext (s1.trans (e1.trans e2))).cap ho k0
   refine tg' v xs[i] _ ρ1 σ0 F2 Hb _ ab0 rx hs fun σ1 hl1 hk1 ab1=>⟨yP k0 hl1 hk1 hi,ρ1,F2,ab1,?_⟩
   rw[ht]
   intro F3 H3 e3
   rcases hcase with ⟨rfl,y,ws,hy1,hy2,rfl⟩|⟨rfl,hy2⟩
   ·refine p8 ⟨ρ1,F3,ab1.ext e3,?_⟩
    rw[hy1]
    intro w F4 H4 e4 rw'
    refine ⟨F4,e1.trans (e2.trans (e3.trans e4)),by rw[List.length_append,List.length_singleton];omega,zs++[y],ws,(hd.same (e2.trans (e3.trans e4)).ff).append (.cons rw' .nil),hy2,by rw[List.append_assoc];exact hz⟩
   ·exact p7 ⟨F3,e1.trans (e2.trans e3),by omega,zs,rest,hd.same (e2.trans e3).ff,hy2,hz⟩
  ·rintro acc H' ⟨F',e1,_,zs,rest,hd,hr,hz⟩ p hp
   rw[List.drop_length] at hr
   cases hr
   rw[List.append_nil] at hz
   subst hz
   exact Rk.ok q (.ref p) F' _ (s1.trans (e1.trans (Ext.own e1.fh hp))) ⟨p,acc,rfl,aW (s1.trans e1).hh hp,aS,aW e1.fh hp,hd⟩
theorem jC{N:List Str}{js:List (Option Nat)}{scope:Scope}{tg elt:Expr}{ifs:List Expr}{fi:Sg->R (List PyData)}{fs:PyData->Sg->Option Sg}{ft:Sg->R Bool}{fe:Sg->R PyData}{is:List Nat}(h:PE X e (mX X N scope js tg elt ifs (tI c E fi)))(ho:js.Pairwise fun a b=>a=none\/a≠b)(hi:∀ i∈is,js[i]? = some none)
 (hb:∀ (cl:List (Str×Addr)) (C:Addr) (s:Shared) (H0:Hp) (fp:List Addr),∃ g,PG (dS X N scope cl C s H0 fp) tg g/\Tg c g fs is/\L2.PIf (dS X N scope cl C s H0 fp) ifs (tTf c E0 ft)/\PD (dS X N scope cl C s H0 fp) c E0 elt fe) :
 PN X c E e (dL js fi fs ft fe):=PE.imp h fun σ H Q q=>pD (nI ho) hi hb q
theorem aBP{i:Nat}{st:Stmt}{N:List Str}{js:List (Option Nat)}{scope:Scope}{tg elt:Expr}{ifs:List Expr}{fi:Sg->R (List PyData)}{fs:PyData->Sg->Option Sg}{ft:Sg->R Bool}{fe:Sg->R PyData}{is:List Nat}(h:PS X st (gY (mX X N scope js tg elt ifs (tI c E fi)) (gE i)))(ho:js.Pairwise fun a b=>a=none\/a≠b)(hi:∀ i∈is,js[i]? = some none)
 (hb:∀ (cl:List (Str×Addr)) (C:Addr) (s:Shared) (H0:Hp) (fp:List Addr),∃ g,PG (dS X N scope cl C s H0 fp) tg g/\Tg c g fs is/\L2.PIf (dS X N scope cl C s H0 fp) ifs (tTf c E0 ft)/\PD (dS X N scope cl C s H0 fp) c E0 elt fe) :
 PSf X c E st (cB i (dL js fi fs ft fe)):=dG (PS.imp h fun D σ H q=>pD (nI ho) hi hb q)
end
noncomputable def eS(fs:PyData->Sg->Option Sg)(fb:Sg->R Fw):List PyData->Sg->R Fw
 | [],ρ=>.ok (.nx ρ)
 | x::t,ρ=>(mH (fs x ρ)).bind fun ρ1=>(fb ρ1).bind fun w=>match w with
  | .nx ρ2=>eS fs fb t ρ2
  | .ct ρ2=>eS fs fb t ρ2
  | .bk ρ2=>.ok (.nx ρ2)
  | .rt a=>.ok (.rt a)
def eU(fi:Sg->R (List PyData))(fs:PyData->Sg->Option Sg)(fb:Sg->R Fw):Sg->R Fw:=fun ρ=>(fi ρ).bind fun xs=>eS fs fb xs ρ
section
variable{X:Cx}{c:Ct}{E:XK}{e a b:Expr}{pos:Pos}{st:Stmt}
theorem dQ{g:TG}{fi:Sg->R (List PyData)}{fs:PyData->Sg->Option Sg}{is:List Nat}{fb:Sg->R Fw}(hg:Tg c g fs is)(h:PS X st (aC7 (tI0 c E fi) g (tSf c E fb))):PSf X c E st (eU fi fs fb):=PS.imp h fun D σ H zz0=>by
 obtain ⟨ρ,F,ab,k⟩:=zz0
 refine ⟨ρ,F,ab,(Rk.bind k).imp fun xs _ q J F1 H1 s1 yl=>?_⟩
 refine ⟨fun i m σ H=>m=xs.length - i/\i<=xs.length/\∃ ρ' F',aF F1 F'/\Ab c ρ' σ F' H/\Rk c E F' H (eS fs fb (xs.drop i) ρ') (eK c F D),⟨xs.length,by simp,Nat.zero_le _,ρ,F1,bR _,ab.ext s1,Rk.ext s1 q⟩,?_⟩
 rintro i m σ2 H2 ⟨rfl,hi,ρ2,F2,s2,ab2,k2⟩
 by_cases hlt:i < xs.length
 ·refine .inr ⟨yl.go i F2 H2 s2 ab2.fh kX hlt,fun σ' H'=>∃ ρ' F',aF F1 F'/\Ab c ρ' σ' F' H'/\Rk c E F' H' (eS fs fb (xs.drop (i+1)) ρ') (eK c F D),fun σ' H' w=>⟨xs.length - (i+1),by omega,rfl,hlt,w⟩,fun v H3 y=>?_⟩
  obtain ⟨F3,e3,rv⟩:=yl.yld i F2 H2 v H3 xs[i] s2 ab2.fh kX y (List.getElem?_eq_getElem hlt)
  have hdr:xs.drop i=xs[i]::xs.drop (i+1):=List.drop_eq_getElem_cons hlt
  rw[hdr] at k2
  unfold eS at k2
  cases h1:fs xs[i] ρ2 with
  | none=>rw[h1] at k2;exact k2.elim
  | some ρ3=>
   rw[h1] at k2
   refine hg v xs[i] ρ2 ρ3 σ2 F3 H3 _ (ab2.ext e3) rv h1 fun σ3 _ _ ab3=>⟨ρ3,F3,ab3,?_⟩
   have k3:Rk c E F2 H2 (fb ρ3) _:=Rk.bind k2
   cases h2:fb ρ3 with
   | bad=>rw[h2] at k3;exact k3.elim
   | ex e=>rw[h2] at k3;exact k3
   | ok w=>
    rw[h2] at k3
    have k4:=Rk.ok k3
    have sF:aF F F3:=fun a o z=>e3.ff a o (s2 a o (s1.ff a o z))
    cases w with
    | nx ρ4=>exact fun σ' F' H' s' ab'=>⟨ρ4,F',fun a o z=>s' a o (e3.ff a o (s2 a o z)),ab',k4⟩
    | ct ρ4=>exact fun σ' F' H' s' ab'=>⟨ρ4,F',fun a o z=>s' a o (e3.ff a o (s2 a o z)),ab',k4⟩
    | bk ρ4=>exact fun σ' F' H' s' ab'=>Rk.ok k4 σ' F' H' (fun a o z=>s' a o (sF a o z)) ab'
    | rt a=>exact fun v F' H' z r=>Rk.ok k4 v F' H' z r
 ·have e:i=xs.length:=by omega
  subst e
  rw[List.drop_length] at k2
  exact .inl ⟨yl.stop F2 H2 s2 ab2.fh kX,Rk.ok k2 σ2 F2 H2 (fun a o z=>s2 a o (s1.ff a o z)) ab2⟩
end
noncomputable def bZ(t:Sg->R Bool)(b:Sg->R Fw):Nat->Sg->R Fw
 | 0,_=>.bad
 | n+1,ρ=>(t ρ).bind fun k=>if k=true then (b ρ).bind fun w=>match w with
   | .nx ρ'=>bZ t b n ρ'
   | .ct ρ'=>bZ t b n ρ'
   | .bk ρ'=>.ok (.nx ρ')
   | .rt a=>.ok (.rt a)
  else .ok (.nx ρ)
open Classical in
noncomputable def cA(t:Sg->R Bool)(b:Sg->R Fw):Sg->R Fw:=fun ρ=>if h:∃ n,bZ t b n ρ≠.bad then bZ t b h.choose ρ else .bad
theorem R.bind_mono{α β:Type}{r:R α}{f g:α->R β}(h:r.bind f≠.bad)(hfg:∀ a,f a≠.bad->g a=f a):r.bind g=r.bind f:=by
 cases r with
 | bad=>rfl
 | ex e=>rfl
 | ok a=>exact hfg a h
theorem gI{t:Sg->R Bool}{b:Sg->R Fw}:∀ {n m:Nat} {ρ:Sg},n<=m->bZ t b n ρ≠.bad->bZ t b m ρ=bZ t b n ρ
 | 0,_,_,_,h=>absurd rfl h
 | n+1,0,_,hm,_=>absurd hm (by omega)
 | n+1,m+1,ρ,hm,h=>by
  unfold bZ at h ⊢
  refine R.bind_mono h fun k hk=>?_
  cases k with
  | false=>rfl
  | true=>
   refine R.bind_mono (r:=b ρ) hk fun w hw=>?_
   cases w with
   | nx ρ'=>exact gI (by omega) hw
   | ct ρ'=>exact gI (by omega) hw
   | bk ρ'=>rfl
   | rt a=>rfl
theorem kY{t:Sg->R Bool}{b:Sg->R Fw}{ρ:Sg}{n:Nat}(h:bZ t b n ρ≠.bad):cA t b ρ=bZ t b n ρ:=by
 have hx:∃ n,bZ t b n ρ≠.bad:=⟨n,h⟩
 unfold cA
 rw[dif_pos hx]
 have hc:=hx.choose_spec
 rcases Nat.le_total n hx.choose with q|q
 · exact gI q h
 · exact (gI q hc).symm
theorem pE (t : Sg -> R Bool) (b : Sg -> R Fw) (ρ : Sg) : cA t b ρ = (t ρ).bind fun k => if k = true then (b ρ).bind fun w => match w with
      | .nx ρ' => cA t b ρ'
      | .ct ρ' => cA t b ρ'
      | .bk ρ' => .ok (.nx ρ')
      | .rt a => .ok (.rt a)
    else .ok (.nx ρ) := by
  have key : ∀ n, (∀ k, t ρ = .ok k -> k = true -> ∀ w, b ρ = .ok w -> ∀ ρ', (w = .nx ρ' \/ w = .ct ρ') -> cA t b ρ' = bZ t b n ρ') -> bZ t b (n + 1) ρ = (t ρ).bind fun k => if k = true then (b ρ).bind fun w => match w with
      | .nx ρ' => cA t b ρ'
      | .ct ρ' => cA t b ρ'
      | .bk ρ' => .ok (.nx ρ')
      | .rt a => .ok (.rt a)
    else .ok (.nx ρ) := by
    intro n h
    unfold bZ
    cases ht : t ρ with
    | bad => rfl
    | ex e => rfl
    | ok k =>
      cases k with
      | false => rfl
      | true =>
        show ((b ρ).bind _) = ((b ρ).bind _)
        cases hb : b ρ with
        | bad => rfl
        | ex e => rfl
        | ok w =>
          cases w with
          | nx ρ' => exact (h true ht rfl _ hb ρ' (.inl rfl)).symm
          | ct ρ' => exact (h true ht rfl _ hb ρ' (.inr rfl)).symm
          | bk ρ' => rfl
          | rt a => rfl
  by_cases hx : ∃ n, bZ t b n ρ ≠ .bad
  · obtain ⟨n, hn⟩ := hx
    cases n with
    | zero => exact absurd rfl hn
    | succ n =>
      rw [kY hn]
      refine key n fun k ht hk w hb ρ' hw => ?_
      subst hk
      refine kY fun z => hn ?_
      unfold bZ
      rw [ht]
      show ((b ρ).bind _) = _
      rw [hb]
      rcases hw with rfl | rfl
      · exact z
      · exact z
  · have h0 : cA t b ρ = .bad := by unfold cA; rw [dif_neg hx]
    rw [h0]
    have hall : ∀ n, bZ t b n ρ = .bad := fun n => Classical.byContradiction fun z => hx ⟨n, z⟩
    cases ht : t ρ with
    | bad => rfl
    | ex e => have := hall 1; unfold bZ at this; rw [ht] at this; cases this
    | ok k =>
      cases k with
      | false => have := hall 1; unfold bZ at this; rw [ht] at this; cases this
      | true =>
        show R.bad = ((b ρ).bind _)
        cases hb : b ρ with
        | bad => rfl
        | ex e => have := hall 1; unfold bZ at this; rw [ht] at this; change ((b ρ).bind _) = _ at this; rw [hb] at this; cases this
        | ok w =>
          have nxt : ∀ ρ', (w = .nx ρ' \/ w = .ct ρ') -> cA t b ρ' = .bad := fun ρ' hw => by
            unfold cA
            rw [dif_neg]
            rintro ⟨n, hn⟩
            refine hn ?_
            have := hall (n + 1)
            unfold bZ at this
            rw [ht] at this
            change ((b ρ).bind _) = _ at this
            rw [hb] at this
            rcases hw with rfl | rfl <;> exact this
          cases w with
          | nx ρ' => exact (nxt ρ' (.inl rfl)).symm
          | ct ρ' => exact (nxt ρ' (.inr rfl)).symm
          | bk ρ' => have := hall 1; unfold bZ at this; rw [ht] at this; change ((b ρ).bind _) = _ at this; rw [hb] at this; cases this
          | rt a => have := hall 1; unfold bZ at this; rw [ht] at this; change ((b ρ).bind _) = _ at this; rw [hb] at this; cases this
section
variable{X:Cx}{c:Ct}{E:XK}{st:Stmt}
theorem l8{t:Sg->R Bool}{fb:Sg->R Fw}(h:PS X st (vB (tTf c E t) (tSf c E fb))):PSf X c E st (cA t fb):=PS.imp h fun D σ H zz0=>by
 obtain ⟨ρ,F,ab,k⟩:=zz0
 have hx:∃ n,bZ t fb n ρ≠.bad:=Classical.byContradiction fun z=>by
  have:cA t fb ρ=.bad:=by unfold cA;rw[dif_neg z]
  rw[this] at k
  exact k
 obtain ⟨n,hn⟩:=hx
 rw[kY hn] at k
 refine ⟨fun m σ H=>∃ ρ' F',aF F F'/\Ab c ρ' σ F' H/\Rk c E F' H (bZ t fb m ρ') (eK c F D),⟨n,ρ,F,bR F,ab,k⟩,?_⟩
 rintro m σ1 H1 ⟨ρ1,F1,s1,ab1,k1⟩
 cases m with
 | zero=>exact k1.elim
 | succ m=>
  unfold bZ at k1
  refine ⟨ρ1,F1,ab1,(Rk.bind k1).imp fun b _ q F2 H2 e2=>?_⟩
  have ab2:=ab1.ext e2
  cases b with
  | false=>exact p7 (Rk.ok q σ1 F2 H2 (fun a o z=>e2.ff a o (s1 a o z)) ab2)
  | true=>
   refine p8 ⟨fun σ' H'=>∃ ρ' F',aF F F'/\Ab c ρ' σ' F' H'/\Rk c E F' H' (bZ t fb m ρ') (eK c F D),fun σ' H' w=>⟨m,by omega,w⟩,ρ1,F2,ab2,?_⟩
   have q':Rk c E F1 H1 (fb ρ1) _:=Rk.bind (r:=fb ρ1) q
   cases h2:fb ρ1 with
   | bad=>rw[h2] at q';exact q'.elim
   | ex e=>rw[h2] at q';exact q'
   | ok w=>
    rw[h2] at q'
    have k4:=Rk.ok q'
    have sF:aF F F2:=fun a o z=>e2.ff a o (s1 a o z)
    cases w with
    | nx ρ4=>exact fun σ' F' H' s' ab'=>⟨ρ4,F',fun a o z=>s' a o (sF a o z),ab',k4⟩
    | ct ρ4=>exact fun σ' F' H' s' ab'=>⟨ρ4,F',fun a o z=>s' a o (sF a o z),ab',k4⟩
    | bk ρ4=>exact fun σ' F' H' s' ab'=>Rk.ok k4 σ' F' H' (fun a o z=>s' a o (sF a o z)) ab'
    | rt a=>exact fun v F' H' z r=>Rk.ok k4 v F' H' z r
end
end Fl
namespace Fl
open PySem L2 PyProof.Rows
def spG(K:Frag)(mg:Str->Option Value)(T F1:Hp)(n:Nat)(G:List PyData->R PyData):Sp:=fun vs H Q E=>∃ F ds,aF F1 F/\aF T F/\aF F H/\DatVs K F vs ds/\ds.length=n/\match G ds with
 | .bad=>False
 | .ok d=>∀ v F' H',Ext F H F' H'->DatV K F' v d->Q v H'
 | .ex e=>∀ a C F' H',Ext F H F' H'->kR K mg F' e a C->E (.ref C) (some a) H'
def Beh(P:Program)(w:World)(K:Frag)(mg:Str->Option Value)(base:Heap)(T:Hp)(f:Addr)(F1:Hp)(k n:Nat)(G:List PyData->R PyData):Prop:=
 ∃ fd ps,ps.length=n/\gF K fd ps []/\FnOk P w K mg base (CXe P w) k f fd ps (spG K mg T F1 n G)/\(PySem.W.keepIn K (.ref f)=true\/∃ oc od fd' sl,F1 f=some (FnO f ⟨oc,od,.func fd',sl⟩))
def gOf(P:Program)(w:World)(K:Frag)(mg:Str->Option Value)(base:Heap)(T:Hp):Gb:=⟨Beh P w K mg base T,T,w⟩
def spF(g:Gb)(K:Frag)(mg:Str->Option Value)(n:Nat)(G:List A->R A):Sp:=fun vs H Q E=>∃ F as,aF g.T F/\aF F H/\AFs g K mg F as vs/\as.length=n/\match G as with
 | .bad=>False
 | .ok a=>∀ v F' H',Ext F H F' H'->AF g K mg F' a v->Q v H'
 | .ex e=>∀ a C F' H',Ext F H F' H'->kR K mg F' e a C->E (.ref C) (some a) H'
def bT(P:Program)(w:World)(K:Frag)(mg:Str->Option Value)(base:Heap)(T:Hp)(k:Nat)(x:Str)(ps:List Str)(G:List A->R A):Prop:=Calls P w K mg base (CXe P w) k x ps (spF (gOf P w K mg base T) K mg ps.length G)
def bD(n:Nat)(G:List A->R A)(f:Sg->R (List A)):Sg->R A:=fun ρ=>(f ρ).bind fun as=>if as.length=n then G as else .bad
theorem c6{X:Cx}{c:Ct}{E:XK}{e:Expr}{n:Nat}{G:List A->R A}{g:Gb}{K:Frag}{mg:Str->Option Value}{f:Sg->R (List A)}(hG:g=c.g)(hK:K=c.K)(hM:mg=c.mg)(h:PE X e (tY (spF g K mg n G) [] E (tAv c E f))):PV X c E e (bD n G f):=PE.imp h fun σ H Q zz0=>by
 obtain ⟨ρ,F,ab,k⟩:=zz0
 subst hG hK hM
 refine ⟨ρ,F,ab,(Rk.bind k).imp fun as _ q vs F1 H1 s1 r1=>?_⟩
 by_cases hn:as.length=n
 ·rw[if_pos hn] at q
  refine ⟨F1,as,fun a o z=>s1.ff a o (ab.f0 a o (ab.t0 a o z)),s1.fh,by rw[List.append_nil];exact r1,hn,?_⟩
  cases hg:G as with
  | bad=>rw[hg] at q;exact q
  | ok a=>rw[hg] at q;exact fun v F' H' s r=>Rk.ok q v F' H' (s1.trans s) r
  | ex e=>rw[hg] at q;exact fun a C F' H' s r=>q a C F' H' ((ab.all.trans s1).trans s) r
 ·rw[if_neg hn] at q;exact q.elim
def fnF(n:Nat)(fb:Sg->R Fw):List A->R A:=fun as=>(fb (as.map some++List.replicate (n - as.length) none)).bind fun w=>match w with
 | .rt (.l _)=>.bad
 | .rt a=>.ok a
 | .nx _=>.ok (.d .none)
 | _=>.bad
theorem AFs.get{g:Gb}{K:Frag}{mg:Str->Option Value}{F:Hp}:∀ {as:List A} {vs:List V} {i:Nat} {a:A},AFs g K mg F as vs->as[i]? = some a->∃ v,vs[i]? = some v/\AF g K mg F a v
 | [],[],_,_,_,h=>by simp at h
 | a::as,v::vs,0,_,h,e=>by simp at e;subst e;exact ⟨v,rfl,h.1⟩
 | a::as,v::vs,i+1,_,h,e=>by
  obtain ⟨w,h1,h2⟩:=AFs.get (i:=i) h.2 (by simpa using e)
  exact ⟨w,by simpa using h1,h2⟩
theorem kZ{α:Type}{as:List α}{n i:Nat}{a:α}(h:(as.map some++List.replicate n none)[i]? = some (some a)):as[i]? = some a:=by
 by_cases hi:i < as.length
 ·rw[List.getElem?_append_left (by rw[List.length_map];exact hi),List.getElem?_map] at h
  cases e:as[i]? with
  | none=>rw[e] at h;cases h
  | some b=>rw[e] at h;cases h;rfl
 ·rw[List.getElem?_append_right (by rw[List.length_map];omega),List.getElem?_replicate] at h
  split at h
  · cases h
  · cases h
theorem yQ{g:Gb}{cells:List (Str×Addr)}{cls:Str->Option ClSt}{K:Frag}{mg:Str->Option Value}{w:World}{F H:Hp}{as:List A}{vs:List V}{n:Nat}(s0:aF g.T F)(s:aF F H)(h:AFs g K mg F as vs):Ab ⟨K,mg,w,F,H,g,cells,cls⟩ (as.map some++List.replicate (n - as.length) none) (vs.map some++List.replicate (n - vs.length) none) F H where
 len:=by rw[List.length_append,List.length_append,List.length_map,List.length_map,List.length_replicate,List.length_replicate,h.len]
 fh:=s
 slot:=fun i a e=>by
  obtain ⟨v,h1,h2⟩:=h.get (kZ e)
  refine ⟨v,?_,AO.of h2⟩
  have hi:i < vs.length:=(List.getElem?_eq_some_iff.mp h1).1
  rw[List.getElem?_append_left (by rw[List.length_map];exact hi),List.getElem?_map,h1];rfl
 apart:=fun i j a b _ e1 _ o _=>by
  obtain ⟨v,h1,h2⟩:=h.get (kZ e1)
  rw[AF.notOwn h2] at o
  cases o
 f0:=bR F
 h0:=bR H
 n0:=fun a e n=>absurd e n
 t0:=s0
theorem sT{g:Gb}{cells:List (Str×Addr)}{cls:Str->Option ClSt}{K:Frag}{mg:Str->Option Value}{w:World}{n:Nat}{fb:Sg->R Fw}{vs:List V}{as:List A}{F H:Hp}{Q:VK}{E:XK}(h0:aF g.T F)(h1:aF F H)(h2:AFs g K mg F as vs)(h4:match fnF n fb as with
 | .bad=>False
 | .ok a=>∀ v F' H',Ext F H F' H'->AF g K mg F' a v->Q v H'
 | .ex e=>∀ a C F' H',Ext F H F' H'->kR K mg F' e a C->E (.ref C) (some a) H'):tSf ⟨K,mg,w,F,H,g,cells,cls⟩ E fb {nx:=fun _ H'=>Q .non H',rt:=Q} (vs.map some++List.replicate (n - vs.length) none) H:=by
 refine ⟨_,F,yQ h0 h1 h2,?_⟩
 unfold fnF at h4
 cases e:fb (as.map some++List.replicate (n - as.length) none) with
 | bad=>rw[e] at h4;exact h4
 | ex x=>rw[e] at h4;exact h4
 | ok w=>
  rw[e] at h4
  cases w with
  | nx ρ'=>exact fun σ' F' H' s ab=>h4 .non F' H' ab.all .non
  | rt a=>
   cases a with
   | l xs=>exact h4.elim
   | _=>exact h4
  | bk ρ'=>exact h4.elim
  | ct ρ'=>exact h4.elim
section
variable{P:Program}{w:World}{K:Frag}{mg:Str->Option Value}{base:Heap}{T:Hp}{x:Str}{st:Stmt}{N ps:List Str}{k:Nat}
theorem eB{fb:Sg->R Fw}(D:DefAt K mg x st ps)(S:FnScope N ps (aP st))
  (hbody:∀ (f:Addr) (cdv:Value) (A:Around) (outer:List Env) (s:Shared) (H F:Hp) (E:XK),Room k (A.deeper (envOfC x (aP st) s.heap.objs.size f cdv))->
   kU ((fV (CXe P w) P w K mg base N x (aP st) f cdv A outer s H E).fly E) ⟨K,mg,w,F,H,gOf P w K mg base T,(envOfC x (aP st) s.heap.objs.size f cdv).cells,fun _=>none⟩ E (dC st) fb):bT P w K mg base T (k+1) x ps (fnF N.length fb):=by
 refine D.okX S (fun vs H Q E h=>?_) (fun f cdv A outer s H vs Q E hr h=>?_)
 ·obtain ⟨F,as,_,_,h2,h3,_⟩:=h
  rw[h2.len,h3]
 ·obtain ⟨F,as,h0,h1,h2,h3,h4⟩:=h
  exact ⟨_,hbody f cdv A outer s H F E hr,sT h0 h1 h2 h4⟩
theorem bT.imp{G G':List A->R A}(C:bT P w K mg base T k x ps G)(h:∀ as,G' as≠.bad->G as=G' as):bT P w K mg base T k x ps G':=Calls.imp C fun vs H Q E=>by
 rintro ⟨F,as,h0,h1,h2,h3,h4⟩
 refine ⟨F,as,h0,h1,h2,h3,?_⟩
 cases e:G' as with
 | bad=>rw[e] at h4;exact h4.elim
 | ok a=>rw[h as (by rw[e];exact fun z=>nomatch z),e];rw[e] at h4;exact h4
 | ex x=>rw[h as (by rw[e];exact fun z=>nomatch z),e];rw[e] at h4;exact h4
end
def aD0(cn:Str)(fs:List Str)(f:Sg->R (List PyData)):Sg->R Fw:=fun ρ=>(f ρ).bind fun xs=>if xs.length=fs.length then .ex ⟨cn,fs.zip xs⟩ else .bad
end Fl
namespace Fl
open PySem L2 PyProof.Rows
def tPf(c:Ct)(E:XK)(f:Sg->R (Option Int)):TO:=fun σ H Q=>∃ ρ F,Ab c ρ σ F H/\Rk c E F H (f ρ) fun o=>∀ F' H',Ext F H F' H'->Q o H'
noncomputable def oNo:Sg->R (Option Int):=fun _=>.ok none
def oSo(f:Sg->R PyData):Sg->R (Option Int):=fun ρ=>(f ρ).bind fun x=>match x with
 | .int i=>.ok (some i)
 | _=>.bad
noncomputable def eW{α:Type}(xs:List α)(lo hi:Option Int):List α:=(xs.drop (HT.sIx xs.length 0 lo)).take (HT.sIx xs.length xs.length hi - HT.sIx xs.length 0 lo)
noncomputable def dSl:PyData->Option Int->Option Int->R PyData
 | .list xs,lo,hi=>.ok (.list (eW xs lo hi))
 | .tuple xs,lo,hi=>if ¬ (HT.sIx xs.length 0 lo=0/\HT.sIx xs.length xs.length hi=xs.length) then .ok (.tuple (eW xs lo hi)) else .bad
 | .str z,lo,hi=>if z.length<=16777216 then .ok (.str (Txt.slice z lo hi)) else .bad
 | _,_,_=>.bad
def eSl{α:Type}(g:PyData->Option Int->Option Int->R α)(f:Sg->R PyData)(lo hi:Sg->R (Option Int)):Sg->R α:=fun ρ=>(f ρ).bind fun x=>(lo ρ).bind fun l=>(hi ρ).bind fun h=>g x l h
theorem qT{K:Frag}{F:Hp}{vs:List V}{xs:List PyData}(h:DatVs K F vs xs)(lo hi:Option Int):DatVs K F (kM vs lo hi) (eW xs lo hi):=by
 unfold kM eW
 rw[h.length]
 exact (h.drop _).take _
theorem PO.imp{X:Cx}{e:Option Expr}{t t':TO}(h:PO X e t)(i:∀ σ H Q,t' σ H Q->t σ H Q):PO X e t':=fun pins s σ H Q I q=>h pins s σ H Q I (i σ H Q q)
section
variable{X:Cx}{c:Ct}{E:XK}{e a b:Expr}{pos p2:Pos}{lo hi:Option Expr}
theorem nJ:PO X none (tPf c E oNo):=PO.imp aA8 fun σ H Q ⟨ρ,F,ab,k⟩=>Rk.ok k F H (Ext.refl ab.fh)
theorem nK{f:Sg->R PyData}(h:PR X c E e f):PO X (some e) (tPf c E (oSo f)):=PO.imp (aA9 h) fun σ H Q ⟨ρ,F,ab,k⟩=>⟨ρ,F,ab,(Rk.bind k).imp fun x _ q v F' H' s r=>by
 cases x with
 | int i=>exact ⟨i,aN.int_of r,Rk.ok q F' H' s⟩
 | _=>exact q.elim⟩
def aD1(c:Ct){α:Type}(Rb:VR α)(g:PyData->Option Int->Option Int->R α):V->Option Int->Option Int->Hp->VK->Prop:=fun v lo hi H Q=>∃ F x d,aF F H/\aN c.K F H v x/\g x lo hi=.ok d/\∀ w F' H',Ext F H F' H'->Rb d w H F' H'->Q w H'
theorem aFQ(hK:X.K=c.K):SlR X (aD1 c (bO c) dSl):=by
 intro pins s σ H v x vl vu lo hi sl Q I rx hs pl pu h
 obtain ⟨F,d,w,sf,ra,eg,q⟩:=h
 unfold dSl at eg
 split at eg
 ·cases eg
  obtain ⟨p,vs,rfl,h1,h2⟩:=aN.lst_of sf ra
  rw[<-hK] at h1
  exact aBC pins s σ H _ x vl vu lo hi sl Q I rx hs pl pu ⟨p,vs,rfl,h1,fun l hl=>q _ _ _ (Ext.new sf hl) (.lst (SqL.of aS) ((qT h2 lo hi).same (aF.upd (aW sf hl))))⟩
 ·rename_i xs _ _
  split at eg
  ·rename_i hw
   cases eg
   obtain ⟨p,vs,rfl,_,h1,h2⟩:=aN.tup_of sf ra
   rw[<-hK] at h1
   exact aDK pins s σ H _ x vl vu lo hi sl Q I rx hs pl pu ⟨p,vs,rfl,h1,by rw[h2.length];exact hw,fun l hl=>q _ _ _ (Ext.new sf hl) (.tup (SqT.of aS) ((qT h2 lo hi).same (aF.upd (aW sf hl))))⟩
  ·cases eg
 ·split at eg
  ·rename_i hz
   cases eg
   obtain rfl:=aN.str_of ra
   exact aDR pins s σ H _ x vl vu lo hi sl Q I rx hs pl pu ⟨_,rfl,by rw[cD];exact hz,q _ F H (Ext.refl sf) (.str _)⟩
  ·cases eg
 ·cases eg
theorem aBQ{α:Type}{Rb:VR α}{g:PyData->Option Int->Option Int->R α}(hp:∀ x l h e,g x l h≠.ex e)(kb:qJ Rb){f:Sg->R PyData}{fl fh:Sg->R (Option Int)}{σ:L2.St}{H:Hp}{Q:VK}(h:tV Rb c E (eSl g f fl fh) σ H Q) :
  tSl (aD1 c Rb g) (tV (aQ c) c E f) (tPf c E fl) (tPf c E fh) σ H Q:=by
 obtain ⟨ρ,F,ab,k⟩:=h
 refine ⟨ρ,F,ab,(Rk.bind k).imp fun x _ q v F1 H1 s1 r1=>⟨ρ,F1,ab.ext s1,((Rk.bind q).ext s1).imp fun l _ q F2 H2 s2=>⟨ρ,F2,ab.ext (s1.trans s2),((Rk.bind q).ext (s1.trans s2)).imp fun hh _ q F3 H3 s3=>?_⟩⟩⟩
 cases eg:g x l hh with
 | bad=>rw[eg] at q;exact q.elim
 | ex e=>exact absurd eg (hp x l hh e)
 | ok d=>
  rw[eg] at q
  have s13:=(s1.trans s2).trans s3
  exact ⟨F3,x,d,s3.fh,aN.ext (s2.trans s3) r1,eg,fun w F' H' s r=>Rk.ok q w F' H' (s13.trans s) (kb _ _ _ _ _ _ s13.hh r)⟩
theorem yR:∀ x l h e,dSl x l h≠.ex e:=by intro x l h e q;unfold dSl at q;split at q<;>(try split at q)<;>cases q
theorem iN{f:Sg->R PyData}{fl fh:Sg->R (Option Int)}(hK:X.K=c.K)(he:PR X c E e f)(hl:PO X lo (tPf c E fl))(hh:PO X hi (tPf c E fh)):PD X c E (.Subscript e (.Slice lo hi none p2) pos) (eSl dSl f fl fh):=
 PE.imp (yA (aFQ hK) he hl hh) fun σ H Q h=>aBQ yR (h8 c) h
noncomputable def tyN:PyData->String
 | .none=>"NoneType"
 | .bool _=>"bool"
 | .int _=>"int"
 | .str _=>"str"
 | .list _=>"list"
 | .tuple _=>"tuple"
 | .dict _=>"dict"
noncomputable def fY(t T:String):Bool:=t == T || (T == "int" && t == "bool")
noncomputable def i4(T:String)(x:PyData):R PyData:=match x with
 | .dict _=>.bad
 | x=>.ok (.bool (fY (tyN x) T))
structure Kit(K:Frag)(T:String):Prop where
 non:PySem.W.kitOne K (.type "NoneType") (.type T)=some (fY "NoneType" T)
 bl:PySem.W.kitOne K (.type "bool") (.type T)=some (fY "bool" T)
 int:PySem.W.kitOne K (.type "int") (.type T)=some (fY "int" T)
 str:PySem.W.kitOne K (.type "str") (.type T)=some (fY "str" T)
 lst:PySem.W.kitOne K (.type "list") (.type T)=some (fY "list" T)
 tup:PySem.W.kitOne K (.type "tuple") (.type T)=some (fY "tuple" T)
theorem yS(K:Frag):Kit K "bool":=⟨rfl,rfl,rfl,rfl,rfl,rfl⟩
theorem yT{X:Cx}:dY X (.builtin "isinstance") (fun xs H Q=>∃ a ys c cv b,xs=[.ref a,c]/\SqL X.K H a ys/\uA c=some cv/\PySem.W.kitOne X.K (.type "list") cv=some b/\Q (.bl b) H):=by
 intro pins s σ H xs us Q I r h
 obtain ⟨a,ys,c,cv,b,rfl,ha,hc,e,q⟩:=h
 obtain ⟨u,v,rfl,ru,rv⟩:=mS r
 obtain rfl:=n4 hc rv
 cases (show u=Value.ref a from ru)
 obtain ⟨its,_,pl,_⟩:=I.list ha
 obtain ⟨o,h1,h2,_⟩:=pl.isList
 exact PySem.W.kia_one PySem.W.kitx_list I.kIn ⟨o,h1,h2⟩ e (fun z=>nomatch z) fun tk=>⟨.bl b,H,I.tok _,rfl,q⟩
def yU(c:Ct)(T:String):List V->Hp->VK->Prop:=fun xs H Q=>∃ F x v d,xs=[v,.ty T]/\aF F H/\aN c.K F H v x/\i4 T x=.ok d/\∀ w F' H',Ext F H F' H'->DatV c.K F' w d->Q w H'
theorem yV(hK:X.K=c.K){T:String}(k:Kit X.K T):dY X (.builtin "isinstance") (yU c T):=by
 intro pins s σ H xs us Q I r h
 obtain ⟨F,x,v,d,rfl,sf,ra,eg,q⟩:=h
 cases x with
 | dict _=>cases eg
 | none=>
  cases eg
  obtain rfl:=aN.non_of ra
  exact gG pins s σ H _ us Q I r ⟨_,_,_,_,_,rfl,.pl .non,rfl,k.non,q _ F H (Ext.refl sf) (.bl _)⟩
 | bool b=>
  cases eg
  obtain rfl:=aN.bl_of ra
  exact gG pins s σ H _ us Q I r ⟨_,_,_,_,_,rfl,.pl (.bl b),rfl,k.bl,q _ F H (Ext.refl sf) (.bl _)⟩
 | int b=>
  cases eg
  obtain rfl:=aN.int_of ra
  exact gG pins s σ H _ us Q I r ⟨_,_,_,_,_,rfl,.pl (.int b),rfl,k.int,q _ F H (Ext.refl sf) (.bl _)⟩
 | str b=>
  cases eg
  obtain rfl:=aN.str_of ra
  exact gG pins s σ H _ us Q I r ⟨_,_,_,_,_,rfl,.pl (.str b),rfl,k.str,q _ F H (Ext.refl sf) (.bl _)⟩
 | tuple xs=>
  cases eg
  obtain ⟨p,vs,rfl,_,h1,h2⟩:=aN.tup_of sf ra
  rw[<-hK] at h1
  exact qD pins s σ H _ us Q I r ⟨p,vs,_,_,_,rfl,h1,rfl,k.tup,q _ F H (Ext.refl sf) (.bl _)⟩
 | list xs=>
  cases eg
  obtain ⟨p,vs,rfl,h1,h2⟩:=aN.lst_of sf ra
  rw[<-hK] at h1
  exact yT pins s σ H _ us Q I r ⟨p,vs,_,_,_,rfl,h1,rfl,k.lst,q _ F H (Ext.refl sf) (.bl _)⟩
theorem aD2{T:String}{f:Sg->R PyData}(h:PE X e (tCB (yU c T) (cS (tV (aQ c) c E f) (cS (tC (.ty T)) eJ)))):PD X c E e (e1 (i4 T) f):=PE.imp h fun σ H Q zz0=>by
 obtain ⟨ρ,F,ab,k⟩:=zz0
 refine ⟨ρ,F,ab,(Rk.bind k).imp fun x _ q v F1 H1 s1 r1=>?_⟩
 show yU c T [v,.ty T] H1 Q
 cases x with
 | dict _=>exact q.elim
 | none=>exact ⟨F1,_,v,_,rfl,s1.fh,r1,rfl,fun w F' H' s r=>Rk.ok q w F' H' (s1.trans s) r⟩
 | bool _=>exact ⟨F1,_,v,_,rfl,s1.fh,r1,rfl,fun w F' H' s r=>Rk.ok q w F' H' (s1.trans s) r⟩
 | int _=>exact ⟨F1,_,v,_,rfl,s1.fh,r1,rfl,fun w F' H' s r=>Rk.ok q w F' H' (s1.trans s) r⟩
 | str _=>exact ⟨F1,_,v,_,rfl,s1.fh,r1,rfl,fun w F' H' s r=>Rk.ok q w F' H' (s1.trans s) r⟩
 | list _=>exact ⟨F1,_,v,_,rfl,s1.fh,r1,rfl,fun w F' H' s r=>Rk.ok q w F' H' (s1.trans s) r⟩
 | tuple _=>exact ⟨F1,_,v,_,rfl,s1.fh,r1,rfl,fun w F' H' s r=>Rk.ok q w F' H' (s1.trans s) r⟩
end
end Fl
namespace Fl
open PySem L2 PyProof.Rows
noncomputable def cI(kvs:List (PyData×PyData))(k:PyData):Option PyData:=(kvs.find? fun p=>decide (p.1=k)).map (·.2)
noncomputable def cF(kvs:List (PyData×PyData))(k:PyData):Bool:=(cI kvs k).isSome
noncomputable def putM(kvs:List (PyData×PyData))(k v:PyData):List (PyData×PyData):=if cF kvs k=true then kvs.map (fun p=>if p.1=k then (p.1,v) else p) else kvs++[(k,v)]
theorem sU{K:Frag}{F:Hp}{k:PyData}:∀ {es:List Ent} {kvs:List (PyData×PyData)},es.map (·.1)=kvs.map (·.1)->DatVs K F (es.map (·.2.2)) (kvs.map (·.2))->
  (atE es k=none/\cI kvs k=none)\/∃ v d,atE es k=some v/\cI kvs k=some d/\DatV K F v d
 | [],[],_,_=>.inl ⟨rfl,rfl⟩
 | [],_::_,h,_=>by cases h
 | _::_,[],h,_=>by cases h
 | e::es,p::kvs,h,r=>by
  rw[List.map_cons,List.map_cons] at h r
  injection h with h1 h2
  obtain ⟨v,t,e1,r1,r2⟩:=r.cons_of
  rw[List.cons.injEq] at e1
  obtain ⟨rfl,rfl⟩:=e1
  have ih:=sU (k:=k) h2 r2
  unfold atE cI at ih ⊢
  rw[List.find?_cons,List.find?_cons,h1]
  by_cases q:p.1=k
  · rw [decide_eq_true q]; exact .inr ⟨_, _, rfl, rfl, r1⟩
  · rw [decide_eq_false q]; exact ih
theorem MapRel.get{K:Frag}{F:Hp}{es:List Ent}{kvs:List (PyData×PyData)}(m:MapRel K F es kvs)(k:PyData):(atE es k=none/\cI kvs k=none)\/∃ v d,atE es k=some v/\cI kvs k=some d/\DatV K F v d:=sU m.k1 m.vs
theorem MapRel.has{K:Frag}{F:Hp}{es:List Ent}{kvs:List (PyData×PyData)}(m:MapRel K F es kvs)(k:PyData):(atE es k).isSome=cF kvs k:=by
 unfold cF
 rcases m.get k with ⟨a,b⟩|⟨v,d,a,b,_⟩<;>rw[a,b]<;>rfl
theorem iO{kvs:List (PyData×PyData)}{k:PyData}:cF kvs k=true↔k∈kvs.map (·.1):=by
 unfold cF cI
 rw[Option.isSome_map]
 induction kvs with
 | nil=>simp
 | cons p t ih=>
  rw[List.find?_cons]
  by_cases q:p.1=k
  ·rw[decide_eq_true q];simp[q]
  ·rw[decide_eq_false q,ih,List.map_cons]
   exact ⟨fun z=>List.mem_cons_of_mem _ z,fun z=>(List.mem_cons.mp z).resolve_left (fun w=>q w.symm)⟩
theorem wE{kvs:List (PyData×PyData)}{k v:PyData}:(putM kvs k v).map (·.1)=if cF kvs k=true then kvs.map (·.1) else kvs.map (·.1)++[k]:=by
 unfold putM
 cases h:cF kvs k with
 | true=>
  rw[if_pos rfl,if_pos rfl,List.map_map]
  refine List.map_congr_left fun p _=>?_
  show (if p.1=k then (p.1,v) else p).1=p.1
  split<;>rfl
 | false=>rw[if_neg (by decide),if_neg (by decide),List.map_append];rfl
theorem sV{K:Frag}{F:Hp}{k d:PyData}{v:V}(r:DatV K F v d):∀ {es:List Ent} {kvs:List (PyData×PyData)},es.map (·.1)=kvs.map (·.1)->DatVs K F (es.map (·.2.1)) (kvs.map (·.1))->DatVs K F (es.map (·.2.2)) (kvs.map (·.2))->
  (es.map fun e=>if e.1=k then (e.1,e.2.1,v) else e).map (·.1)=(kvs.map fun p=>if p.1=k then (p.1,d) else p).map (·.1) /\
  DatVs K F ((es.map fun e=>if e.1=k then (e.1,e.2.1,v) else e).map (·.2.1)) ((kvs.map fun p=>if p.1=k then (p.1,d) else p).map (·.1)) /\
  DatVs K F ((es.map fun e=>if e.1=k then (e.1,e.2.1,v) else e).map (·.2.2)) ((kvs.map fun p=>if p.1=k then (p.1,d) else p).map (·.2))
 | [],[],_,_,_=>⟨rfl,.nil,.nil⟩
 | [],_::_,h,_,_=>by cases h
 | _::_,[],h,_,_=>by cases h
 | e::es,p::kvs,h,rk,rv=>by
  rw[List.map_cons,List.map_cons] at h rk rv
  injection h with h1 h2
  obtain ⟨_,_,e1,r1,r2⟩:=rk.cons_of
  rw[List.cons.injEq] at e1
  obtain ⟨rfl,rfl⟩:=e1
  obtain ⟨_,_,e1,q1,q2⟩:=rv.cons_of
  rw[List.cons.injEq] at e1
  obtain ⟨rfl,rfl⟩:=e1
  obtain ⟨a1,a2,a3⟩:=sV r h2 r2 q2
  simp only[List.map_cons]
  rw[h1,a1]
  by_cases q:p.1=k
  · rw [if_pos q, if_pos q]; exact ⟨rfl, .cons r1 a2, .cons r a3⟩
  · rw [if_neg q, if_neg q]; exact ⟨by rw [h1], .cons r1 a2, .cons q1 a3⟩
theorem MapRel.put{K:Frag}{F:Hp}{es:List Ent}{kvs:List (PyData×PyData)}{k d:PyData}{kv v:V}(m:MapRel K F es kvs)(rk:DatV K F kv k)(r:DatV K F v d):MapRel K F (f9 es k kv v) (putM kvs k d):=by
 have hh:=m.has k
 have nd:((putM kvs k d).map (·.1)).Nodup:=by
  rw[wE]
  cases h:cF kvs k with
  | true=>rw[if_pos rfl];exact m.nd
  | false=>
   rw[if_neg (by decide),List.nodup_append]
   refine ⟨m.nd,by simp,fun a ha b hb z=>?_⟩
   rw[List.mem_singleton] at hb
   subst hb z
   rw[iO.mpr ha] at h
   cases h
 unfold f9
 rw[hh]
 unfold putM at nd ⊢
 cases h:cF kvs k with
 | true=>
  rw[h,if_pos rfl] at nd
  rw[if_pos rfl,if_pos rfl]
  obtain ⟨a1,a2,a3⟩:=sV (k:=k) r m.k1 m.k2 m.vs
  exact ⟨a1,a2,a3,nd⟩
 | false=>
  rw[h,if_neg (by decide)] at nd
  rw[if_neg (by decide),if_neg (by decide)]
  refine ⟨by rw[List.map_append,List.map_append,m.k1];rfl,?_,?_,nd⟩
  ·rw[List.map_append,List.map_append];exact m.k2.append (.cons rk .nil)
  ·rw[List.map_append,List.map_append];exact m.vs.append (.cons r .nil)
theorem gU{K:Frag}{F:Hp}:∀ {es:List Ent} {kvs:List (PyData×PyData)},es.map (·.1)=kvs.map (·.1)->DatVs K F (es.map (·.2.1)) (kvs.map (·.1))->∀ e∈es,DatV K F e.2.1 e.1
 | [],_,_,_,e,he=>by cases he
 | _::_,[],h,_,_,_=>by cases h
 | e0::es,p::kvs,h,rk,e,he=>by
  rw[List.map_cons,List.map_cons] at h rk
  injection h with h1 h2
  obtain ⟨_,_,e1,r1,r2⟩:=rk.cons_of
  rw[List.cons.injEq] at e1
  obtain ⟨rfl,rfl⟩:=e1
  rcases List.mem_cons.mp he with z|z
  · subst z; rw [h1]; exact r1
  · exact gU h2 r2 e z
section
variable{X:Cx}{c:Ct}{E:XK}{e a b:Expr}{st:Stmt}{pos:Pos}
theorem uO{ρ:Sg}{σ:L2.St}{F H:Hp}{i:Nat}{kvs:List (PyData×PyData)}{k:PyData}{kv:V}(hK:X.K=c.K)(hW:X.w=c.w)(ab:Ab c ρ σ F H)(hi:ρ[i]? = some (some (.m kvs)))(hk:DatV c.K F kv k)(hs:bM k (kvs.map (·.1))=true) :
  ∃ p es,σ[i]? = some (some (.ref p))/\DicAt X H p es k kv/\MapRel c.K F es kvs:=by
 obtain ⟨v,hp,p,es,rfl,⟨ep,h2⟩,h3,h4,h5⟩:=ab.slot i _ hi
 refine ⟨p,es,hp,⟨⟨ep,by rw[hW];exact h2⟩,fun e he=>by rw[hK];exact (gU h5.k1 h5.k2 e he).same ab.fh,by rw[h5.k1];exact h5.nd,by rw[hK];exact hk.same ab.fh,by rw[h5.k1];exact hs⟩,h5⟩
theorem wF{ρ:Sg}{σ:L2.St}{F H:Hp}{i:Nat}{kvs:List (PyData×PyData)}{k:PyData}{kv:V}(hK:X.K=c.K)(hW:X.w=c.g.w)(ab:Ab c ρ σ F H)(hi:ρ[i]? = some (some (.f kvs)))(hk:DatV c.K F kv k)(hs:bM k (kvs.map (·.1))=true) :
  ∃ p es,σ[i]? = some (some (.ref p))/\DicAt X H p es k kv/\MapRel c.K F es kvs:=by
 obtain ⟨v,hp,p,es,rfl,⟨ep,h2⟩,h5⟩:=ab.slot i _ hi
 refine ⟨p,es,hp,⟨⟨ep,by rw[hW];exact ab.fh _ _ h2⟩,fun e he=>by rw[hK];exact (gU h5.k1 h5.k2 e he).same ab.fh,by rw[h5.k1];exact h5.nd,by rw[hK];exact hk.same ab.fh,by rw[h5.k1];exact hs⟩,h5⟩
def aAP(w:World):TE:=fun _ H Q=>∀ p,H p=none->Q (.ref p) (upd H p (bL w p [] 0))
theorem aBR:PE X (.Dict [] [] pos) (aAP X.w):=fun pins s σ H Q I h=>
 wpAny_Dict_empty ⟨.ref s.heap.objs.size,_,I.laid (a:=s.heap.objs.size) (o:=bL X.w s.heap.objs.size [] 0) (t':=s.toks) (fun _ _ q=>Heap.get?_push_of_some _ q) (Nat.le_refl _)
  (eY (beq_eq_false_iff_ne.mpr (Ne.symm (Nat.ne_of_lt I.big))) ⟨_,#[],Heap.get?_push_size _ rfl,⟨rfl,rfl,rfl⟩,rfl,.nil⟩),rfl,h _ (I.hok.fresh (Nat.le_refl _))⟩
noncomputable def nL(i:Nat):Sg->R Fw:=fun ρ=>.ok (.nx (ρ.set i (some (.m []))))
theorem aBS{i:Nat}{w:World}(hW:w=c.w)(h:PS X st (gY (aAP w) (gE i))):PSf X c E st (nL i):=PS.imp h fun D σ H ⟨ρ,F,ab,k⟩=>fun p hp=>by
 subst hW
 exact Rk.ok k _ F _ (bR F) (ab.setM (Ext.own ab.fh hp) hp aS (aW ab.fh hp) ⟨rfl,.nil,.nil,List.nodup_nil⟩)
noncomputable def gB(neg:Bool)(i:Nat)(f:Sg->R PyData):Sg->R PyData:=fun ρ=>(f ρ).bind fun k=>match ρ[i]? with
 | some (some (.m kvs))=>if bM k (kvs.map (·.1))=true then .ok (.bool (if neg=true then !cF kvs k else cF kvs k)) else .bad
 | some (some (.f kvs))=>if bM k (kvs.map (·.1))=true then .ok (.bool (if neg=true then !cF kvs k else cF kvs k)) else .bad
 | _=>.bad
def qU(X:Cx)(neg:Bool):R2:=fun y x H Q=>∃ p es k,x=.ref p/\DicAt X H p es k y/\Q (.bl (if neg=true then !(atE es k).isSome else (atE es k).isSome)) H
theorem aBT(hu:X.A.units+64 < cLine):OpR X (compareOp .In) (qU X false):=by
 intro pins s σ H y x v u Q I ry rx h
 obtain ⟨p,es,k,rfl,D,q⟩:=h
 cases (show u=Value.ref p from rx)
 exact aDW hu D I ry fun s' I'=>⟨.bl _,H,I',rfl,q⟩
theorem qV(hu:X.A.units+64 < cLine):OpR X (compareOp .NotIn) (qU X true):=by
 intro pins s σ H y x v u Q I ry rx h
 obtain ⟨p,es,k,rfl,D,q⟩:=h
 cases (show u=Value.ref p from rx)
 exact aBK hu D I ry fun s' I'=>⟨.bl _,H,I',rfl,q⟩
theorem qW{i:Nat}{neg:Bool}{f:Sg->R PyData}(hK:X.K=c.K)(hW:X.w=c.w)(hg:c.w=c.g.w){σ:L2.St}{H:Hp}{Q:VK}(h:tV (bO c) c E (gB neg i f) σ H Q):tOp (qU X neg) (tV (bO c) c E f) (fG i) σ H Q:=by
 obtain ⟨ρ,F,ab,k⟩:=h
 refine ⟨ρ,F,ab,(Rk.bind k).imp fun d _ q v F1 H1 s1 r1=>?_⟩
 split at q
 ·rename_i kvs hi
  split at q
  ·rename_i hs
   obtain ⟨p,es,hp,D,m⟩:=uO hK hW (ab.ext s1) hi r1 hs
   refine ⟨_,hp,p,es,d,rfl,D,?_⟩
   rw[m.has]
   exact Rk.ok q _ F1 H1 s1 (.bl _)
  ·exact q.elim
 ·rename_i kvs hi
  split at q
  ·rename_i hs
   obtain ⟨p,es,hp,D,m⟩:=wF hK (hW.trans hg) (ab.ext s1) hi r1 hs
   refine ⟨_,hp,p,es,d,rfl,D,?_⟩
   rw[m.has]
   exact Rk.ok q _ F1 H1 s1 (.bl _)
  ·exact q.elim
 ·exact q.elim
theorem aD3{i:Nat}{neg:Bool}{op:CmpOp}{f:Sg->R PyData}(hK:X.K=c.K)(hW:X.w=c.w)(h:PE X e (tOp (qU X neg) (tV (bO c) c E f) (fG i)))(hg:c.w=c.g.w:=by rfl):PD X c E e (gB neg i f):=PE.imp h fun σ H Q q=>qW hK hW hg q
theorem wG{i:Nat}{neg:Bool}{f:Sg->R PyData}(hK:X.K=c.K)(hW:X.w=c.w)(h:PT X e (tW (tOp (qU X neg) (tV (bO c) c E f) (fG i))))(hg:c.w=c.g.w:=by rfl):PTf X c E e (e1 asB (gB neg i f)):=PT.imp h fun σ H Q q=>qW hK hW hg (lP q)
noncomputable def gJ(i:Nat)(f:Sg->R PyData):Sg->R PyData:=fun ρ=>match ρ[i]? with
 | some (some (.m kvs))=>(f ρ).bind fun k=>if bM k (kvs.map (·.1))=true then match cI kvs k with
  | some v=>.ok v
  | none=>.bad else .bad
 | some (some (.f kvs))=>(f ρ).bind fun k=>if bM k (kvs.map (·.1))=true then match cI kvs k with
  | some v=>.ok v
  | none=>.bad else .bad
 | _=>.bad
def aAQ(X:Cx)(td ty:TE):TE:=fun σ H Q=>td σ H fun x H1=>ty σ H1 fun y H2=>∃ p es k v,x=.ref p/\DicAt X H2 p es k y/\atE es k=some v/\Q v H2
theorem sW{o i:Expr}{td ty:TE}(hu:X.A.units+64 < cLine)(ho:PE X o td)(hi:PE X i ty)(hs:aDS i):PE X (.Subscript o i pos) (aAQ X td ty):=by
 intro pins s σ H Q I h
 refine aBE PySem.F.slot_dict_getitem.lookup hs (thn (ho pins s σ H _ I h) fun u s1 ⟨x,H1,I1,rx,q1⟩=>thn (hi pins s1 σ H1 _ I1 q1) fun iv s2 zz0=>?_)
 obtain ⟨y,H2,I2,ry,p,es,k,v,ex,D,hv,q2⟩:=zz0
 subst ex
 obtain rfl:u=Value.ref p:=rx
 obtain ⟨ep,hO⟩:=D.o
 obtain ⟨⟨_,o',ar,h1,h2,_⟩,_,_⟩:=(show bW X.prog X.w H2 s2.heap p (bL X.w p es ep) from I2.hok p _ hO)
 exact ⟨⟨o',h1,h2.1⟩,aBL hu D I2 ry hv fun w' s3 I3 rw'=>⟨v,H2,I3,rw',q2⟩⟩
theorem sX{i:Nat}{f:Sg->R PyData}(hK:X.K=c.K)(hW:X.w=c.w)(h:PE X e (aAQ X (fG i) (tV (bO c) c E f)))(hg:c.w=c.g.w:=by rfl):PD X c E e (gJ i f):=PE.imp h fun σ H Q ⟨ρ,F,ab,k⟩=>by
 unfold gJ at k
 split at k
 ·rename_i kvs hi
  obtain ⟨_,hp,p,es,rfl,_⟩:=ab.slot i _ hi
  refine ⟨_,hp,ρ,F,ab,(Rk.bind k).imp fun d _ q v F1 H1 s1 r1=>?_⟩
  split at q
  ·rename_i hs
   obtain ⟨p',es',hp',D,m⟩:=uO hK hW (ab.ext s1) hi r1 hs
   rw[hp] at hp'
   cases hp'
   split at q
   ·rename_i w hw
    rcases m.get d with ⟨_,z⟩|⟨v',d',h1,h2,h3⟩
    ·rw[hw] at z;cases z
    ·rw[hw] at h2
     cases h2
     exact ⟨p,es',d,v',rfl,D,h1,Rk.ok q v' F1 H1 s1 h3⟩
   ·exact q.elim
  ·exact q.elim
 ·rename_i kvs hi
  obtain ⟨_,hp,p,es,rfl,_⟩:=ab.slot i _ hi
  refine ⟨_,hp,ρ,F,ab,(Rk.bind k).imp fun d _ q v F1 H1 s1 r1=>?_⟩
  split at q
  ·rename_i hs
   obtain ⟨p',es',hp',D,m⟩:=wF hK (hW.trans hg) (ab.ext s1) hi r1 hs
   rw[hp] at hp'
   cases hp'
   split at q
   ·rename_i w hw
    rcases m.get d with ⟨_,z⟩|⟨v',d',h1,h2,h3⟩
    ·rw[hw] at z;cases z
    ·rw[hw] at h2
     cases h2
     exact ⟨p,es',d,v',rfl,D,h1,Rk.ok q v' F1 H1 s1 h3⟩
   ·exact q.elim
  ·exact q.elim
 ·exact k.elim
noncomputable def iB(i:Nat)(f g:Sg->R PyData):Sg->R Fw:=fun ρ=>(g ρ).bind fun v=>match ρ[i]? with
 | some (some (.m kvs))=>(f ρ).bind fun k=>if bM k (kvs.map (·.1))=true/\kvs.length<=16777216 then .ok (.nx (ρ.set i (some (.m (putM kvs k v))))) else .bad
 | _=>.bad
def aAR(X:Cx):tS:=fun o i v H Q=>∃ p es k,o=.ref p/\DicAt X H p es k i/\es.length<=sizeLine/\∀ ep,Q (upd H p (bL X.w p (f9 es k i v) ep))
theorem qX(hu:X.A.units+64 < cLine):xY X (aAR X):=by
 intro pins s σ H o i v ov iv u Q I ro ri rv h
 obtain ⟨p,es,k,rfl,D,hz,q⟩:=h
 cases (show ov=Value.ref p from ro)
 exact aBM hu D I ri rv hz fun ep s' I'=>⟨_,I',q ep⟩
theorem sY{i:Nat}{f g:Sg->R PyData}(hK:X.K=c.K)(hW:X.w=c.w)(h:PS X st (gY (tV (bO c) c E g) (xZ (fG i) (tV (bO c) c E f) (aAR X)))):PSf X c E st (iB i f g):=PS.imp h fun D σ H ⟨ρ,F,ab,k⟩=>by
 refine ⟨ρ,F,ab,(Rk.bind k).imp fun x _ q v F1 H1 s1 r1=>?_⟩
 split at q
 ·rename_i kvs hi
  have ab1:=ab.ext s1
  obtain ⟨_,hp,p,es,rfl,_⟩:=ab1.slot i _ hi
  refine ⟨_,hp,ρ,F1,ab1,((Rk.bind q).ext s1).imp fun d _ q u F2 H2 s2 r2=>?_⟩
  have ab2:=ab1.ext s2
  split at q
  ·rename_i hs
   obtain ⟨p',es',hp',D',m⟩:=uO hK hW ab2 hi r2 hs.1
   rw[hp] at hp'
   cases hp'
   refine ⟨p,es',d,rfl,D',?_,?_⟩
   ·have:es'.length=kvs.length:=by have:=congrArg List.length m.k1;simpa using this
    rw[this,cD];exact hs.2
   ·intro ep
    rw[hW]
    exact Rk.ok q σ F2 _ (s1.trans s2).ff (ab2.putM hi hp (m.put r2 (DatV.same s2.ff r1)))
  ·exact q.elim
 ·exact q.elim
end
end Fl
namespace Fl
open PySem L2 PyProof.Rows
section
variable{X:Cx}{c:Ct}{E:XK}{e a b:Expr}{st:Stmt}{pos p2:Pos}
def mI(fs:PyData->Sg->Option Sg)(f:Sg->R PyData):Sg->R Fw:=fun ρ=>(f ρ).bind fun x=>(mH (fs x ρ)).bind fun ρ'=>.ok (.nx ρ')
theorem wH{g:TG}{fs:PyData->Sg->Option Sg}{is:List Nat}{f:Sg->R PyData}(hg:Tg c g fs is)(h:PS X st (gY (tV (bO c) c E f) g)):PSf X c E st (mI fs f):=PS.imp h fun D σ H zz0=>by
 obtain ⟨ρ,F,ab,k⟩:=zz0
 refine ⟨ρ,F,ab,(Rk.bind k).imp fun x _ q v F1 H1 s1 r1=>?_⟩
 cases h1:fs x ρ with
 | none=>rw[h1] at q;exact q.elim
 | some ρ'=>
  rw[h1] at q
  exact hg v x ρ ρ' σ F1 H1 _ (ab.ext s1) r1 h1 fun σ' _ _ ab'=>Rk.ok q σ' F1 H1 s1.ff ab'
noncomputable def aD4:PyData->R PyData
 | .str z=>if z.length<=16777216 then .ok (.str ⟨z.cps.toList.reverse.toArray⟩) else .bad
 | _=>.bad
def aHA(f:Sg->R PyData)(g:Sg->R (Option Int)):Sg->R PyData:=fun ρ=>(f ρ).bind fun x=>(g ρ).bind fun o=>if o=some (-1) then aD4 x else .bad
end
end Fl
namespace Fl
open PySem L2 PyProof.Rows
theorem aD5{P:Program}{w:World}{K:Frag}{mg:Str->Option Value}{base:Heap}{T:Hp}{x:Str}{st:Stmt}{N ps:List Str}{k:Nat}{f:Addr}{fd:FuncData}{fb:Sg->R Fw}(FL:Fun K x x st f fd)(S:FnScope N ps (aP st))
  (hbody:∀ (cdv:Value) (A:Around) (outer:List Env) (s:Shared) (H F:Hp) (E:XK),Room k (A.deeper (envOfC x (aP st) s.heap.objs.size f cdv))->
   kU ((fV (CXe P w) P w K mg base N x (aP st) f cdv A outer s H E).fly E) ⟨K,mg,w,F,H,gOf P w K mg base T,(envOfC x (aP st) s.heap.objs.size f cdv).cells,fun _=>none⟩ E (dC st) fb):FnOk P w K mg base (CXe P w) (k+1) f fd ps (spF (gOf P w K mg base T) K mg ps.length (fnF N.length fb)):=by
 refine FL.okX S (fun vs H Q E h=>?_) (fun cdv A outer s H vs Q E hr h=>?_)
 ·obtain ⟨F,as,_,_,h2,h3,_⟩:=h
  rw[h2.len,h3]
 ·obtain ⟨F,as,h0,h1,h2,h3,h4⟩:=h
  exact ⟨_,hbody cdv A outer s H F E hr,sT h0 h1 h2 h4⟩
def pQ(K:Frag)(T:Hp):Sp:=fun vs H Q _=>∃ (a:Addr) (ns:List Int),vs=[.ref a]/\ns.length<=63/\aF T H/\SqL K H a (ns.map V.int)/\∀ H',Q (.bl true) H'
theorem qY{K:Frag}{H:Hp}:∀ (ns:List Int),DatVs K H (ns.map V.int) (ns.map PyData.int)
 | []=>.nil
 | n::t=>.cons (.int n) (qY t)
theorem aD6{P:Program}{w:World}{K:Frag}{mg:Str->Option Value}{base:Heap}{T:Hp}{k:Nat}{f:Addr}{fd:FuncData}{x:Str}{G:List A->R A}(h:FnOk P w K mg base (CXe P w) k f fd [x] (spF (gOf P w K mg base T) K mg 1 G))
  (hl:∀ ns:List Int,ns.length<=63->G [.d (.list (ns.map .int))]=.ok (.d (.bool true))):FnOk P w K mg base (CXe P w) k f fd [x] (pQ K T):=h.imp fun vs H Q E=>by
 rintro ⟨a,ns,rfl,hn,ht,hs,q⟩
 refine ⟨H,[.d (.list (ns.map .int))],ht,bR H,⟨.lst hs (qY ns),trivial⟩,rfl,?_⟩
 rw[hl ns hn]
 intro v F' H' _ r
 obtain rfl:=DatV.bl_of r
 exact q H'
theorem aFR(P:Program)(w:World)(H:Hp)(s:Shared)(e:Value)(s':Shared)(h:CXe P w [] H s (fun _ _ _=>False) e s'):False:=by
 obtain ⟨_,_,_,_,_,_,_,_,_,_,_,q⟩:=h
 exact q
theorem aD7{l:PySem.W.OpenLaw}{k:Nat}{q:Program}{loose:List Str}{XP:(Str->Option Value)->Heap->Prop}{YP:World->Heap->Prop}{d:DefRec}{K:Params->Frag}{x:Str}
  (hn:l.most=some 63) (hdf:d.params.defaults=[]) (hr:Room k callerA)
  (hY:∀ (w:World) (h:Heap),YP w h->(K w.params).In h)
  (F:∀ (w:World) (mg:Str->Option Value) (fa:Addr) (h:Heap),(K w.params).In h->h.Ns mainGlobals mg->mg d.name=some (.ref fa)->
   ∃ fd:FuncData,(∀ (s:Shared) (u:Value),BindsTo s fd ⟨[u],[]⟩ [(x,u)]) /\
    ∀ base:Heap,(K w.params).In base->base.Ns mainGlobals mg->FnOk l.prog w (K w.params) mg base (CXe l.prog w) k fa fd [x] (pQ (K w.params) fun _=>none)) :
  PySem.W.WalkO q loose XP YP l.row.toRowW d [] (fun f vs=>PySem.call f vs):=
 walk_of (K:=K) (CX:=fun w=>CXe l.prog w) (sp:=fun w=>pQ (K w.params) fun _=>none) hn (by decide) hdf hr hY F (fun w H a ns hl hO hS=>⟨a,ns,rfl,hl,fun _ _ z=>(nomatch z),hS,fun _=>rfl⟩) fun w H s e s' z=>aFR _ w H s e s' z
end Fl
namespace Fl
open PySem L2 PyProof.Rows
variable{X:Cx}{c:Ct}{E:XK}{e:Expr}
noncomputable def d2(G:Int->Int->Int):PyData->PyData->R PyData
 | .int i,.int j=>.ok (.int (G i j))
 | _,_=>.bad
noncomputable def d1(G:Int->Int):PyData->R PyData
 | .int i=>.ok (.int (G i))
 | _=>.bad
noncomputable def gZ(i j:Int):Int:=if j > i then j else i
theorem aD8{G:Int->Int->Int}{f g:Sg->R PyData}(h0:PE X e (tCB (fun xs H Q=>∃ i j,xs=[.int i,.int j]/\Q (.int (G i j)) H) (cS (tV (aQ c) c E f) (cS (tV (aQ c) c E g) eJ)))):PD X c E e (e2 (d2 G) f g):=PE.imp h0 fun σ H Q zz0=>by
 obtain ⟨ρ,F,ab,k⟩:=zz0
 refine ⟨ρ,F,ab,(Rk.bind k).imp fun x ex q v F1 H1 s1 r1=>?_⟩
 refine ⟨ρ,F1,ab.ext s1,((Rk.bind q).ext s1).imp fun y _ q u F2 H2 s2 r2=>?_⟩
 cases x with
 | int i=>
  cases y with
  | int j=>
   obtain rfl:=aN.int_of r1
   obtain rfl:=aN.int_of r2
   exact ⟨i,j,rfl,Rk.ok q _ F2 H2 (s1.trans s2) (.int _)⟩
  | _=>exact q.elim
 | _=>exact q.elim
end Fl
namespace L2
open PySem PyProof.Rows
variable{X:Cx}
end L2
namespace Fl
open PySem L2 PyProof.Rows
variable{X:Cx}{c:Ct}{E:XK}{e:Expr}
end Fl
namespace Fl
open PySem L2 PyProof.Rows
variable{X:Cx}{c:Ct}{E:XK}{e:Expr}{st:Stmt}
end Fl
namespace L2
open PySem PyProof.Rows
theorem aBU{prog:Program}{w:World}{A:Around}{E:Value->Shared->Prop}{s:Shared}{t b:Addr}{vs ws:List Value}{Q:Value->Shared->Prop}(ht:PlainL s.heap t vs.toArray)(hb:PlainL s.heap b ws.toArray)
  (h2:Q (.ref s.heap.objs.size) {s with heap:=s.heap.push {cls:=.type "list",data:=.seq (vs++ws).toArray}})
  (hsz:vs.length+ws.length<=sizeLine):wpAny (model prog w) A (binaryOp .Add (.ref t) (.ref b)) Q E s:=by
 obtain ⟨⟨cls,dd,data,sl⟩,n,ho,hc,_,hd⟩:=id ht
 obtain ⟨⟨cls2,dd2,data2,sl2⟩,n2,ho2,hc2,_,hd2⟩:=id hb
 simp only at hc hd hc2 hd2
 subst hc hd hc2 hd2
 have e:vs.toArray++ws.toArray=(vs++ws).toArray:=by simp
 refine concat_meets ⟨_,ho,rfl⟩ ⟨_,ho2,rfl⟩ noFill_list_add seq_list_add PySem.F.slot_list_add PySem.F.entry_list_add (PySem.F.args_list_add_2 _ _)
   (list_addW t b vs.toArray ws.toArray n n2 dd dd2 sl sl2 (by rw[List.size_toArray,List.size_toArray];exact hsz)) ⟨ho,ho2,?_⟩
 rw[e]
 exact h2
end L2
namespace Fl
open PySem L2 PyProof.Rows
section
variable{X:Cx}{c:Ct}{E:XK}{e a b:Expr}{pos:Pos}
noncomputable def eN:PyData->PyData->R (List PyData)
 | .list xs,.list ys=>if xs.length+ys.length<=sizeLine then .ok (xs++ys) else .bad
 | _,_=>.bad
theorem aBV(hK:X.K=c.K):OpR X (binaryOp .Add) (r2D (aQ c) (aQ c) (mE c) eN):=by
 intro pins s σ H v u x y Q I rx ry h
 obtain ⟨H0,H1,F,a,b,d,sf,ra,rb,eg,q⟩:=h
 unfold eN at eg
 split at eg
 ·rename_i xs ys
  split at eg
  ·rename_i hz
   cases eg
   obtain ⟨pa,vs,rfl,ha,da⟩:=aN.lst_of sf ra
   obtain ⟨pb,us,rfl,hb,db⟩:=aN.lst_of sf rb
   rw[<-hK] at ha hb
   cases rx
   cases ry
   obtain ⟨its,r1,p1,_⟩:=I.list ha
   obtain ⟨its2,r2,p2,_⟩:=I.list hb
   have hz':vs.length+us.length<=sizeLine:=by rw[da.length,db.length];exact hz
   have hp:=I.fresh
   refine aBU p1 p2 ?_ (by rw[<-r1.length,<-r2.length];exact hz')
   exact ⟨.ref _,_,I.lnew (t':=s.toks) (r1.append r2) (by rw[List.length_append];exact hz'),rfl,q _ F _ (Ext.own sf hp) ⟨_,_,rfl,hp,aS,aW sf hp,da.append db⟩⟩
  ·cases eg
 ·cases eg
theorem wI:b9 eN:=by
 intro a b e h
 unfold eN at h
 split at h<;>(try split at h)<;>cases h
theorem nM(hK:X.K=c.K){fa fb:Sg->R PyData}(ha:PR X c E a fa)(hb:PR X c E b fb):PN X c E (.BinOp a .Add b pos) (e2 eN fa fb):=
 PE.imp (aAD (aBV hK) ha hb) fun σ H Q h=>tV2 nB wI (kS c) (aAM c) h
end
end Fl
namespace Fl
open PySem L2 PyProof.Rows
theorem lI{H:Hp}{p:Addr}{a b:HO}:upd (upd H p a) p b=upd H p b:=by
 funext x
 by_cases q:x=p
 · subst q; rw [aS, aS]
 · rw [aK q, aK q, aK q]
section
variable{X:Cx}{pins:List (Addr×Obj)}{σ:L2.St}{H:Hp}{s:Shared}{a:Addr}{es:List Ent}{k:PyData}{kv v:V}{ku u:Value}{A:Around}{E:Value->Shared->Prop}
theorem uP{A:Around}(hu:A.units+64 < cLine):(eQ X.prog X.w).room A:=by show A.units+9 < cLine;omega
theorem aBW{Q:Unit->Shared->Prop}(hu:A.units+64 < cLine)(D:DicAt X H a es k kv)(I:Inv X pins σ H s)(rk:aR kv ku)(rv:aR v u)(hz:es.length<=sizeLine)(h:∀ ep s',Inv X pins σ (upd H a (bL X.w a (f9 es k kv v) ep)) s'->Q () s') :
  wpAny (model X.prog X.w) A (dictSet a ku u) Q E s:=by
 obtain ⟨hd,⟨b,xs,rfl,rfl,hx,hk,dd⟩|⟨kk,xs,rfl,rfl,hx,hk,dd⟩⟩:=D.cases I rk
 ·have hl:xs.length<=sizeLine:=by rw[<-Paired.length hx];exact hz
  refine wpAny_dictSet_heap (a:=b) (uP hu) hk dd (fun h' dd' hs=>?_) hl
  obtain ⟨q',ar,ep,hq,h2,h3,h4,_,h5⟩:=dd'
  obtain ⟨ep0,hO⟩:=D.o
  refine h ep _ (iE I (by rw[hO];exact True.intro) hs ⟨q',hq⟩ (eY hd ⟨q',ar,hq,h2,h3,?_⟩))
  rw[h4]
  exact jS (uJ rv hx)
 ·have hl:xs.length<=sizeLine:=by rw[<-Paired.length hx];exact hz
  refine wpAny_dictSet_pairs hk dd (fun h' dd' hs=>?_) hl
  obtain ⟨q',ar,ep,hq,h2,h3,h4,h5,_⟩:=dd'
  obtain ⟨ep0,hO⟩:=D.o
  refine h ep _ (iE I (by rw[hO];exact True.intro) hs ⟨q',hq⟩ (eY hd ⟨q',ar,hq,h2,h3,?_⟩))
  exact jT (uK rv hx) h5 fun en hen=>h4 en (by simpa using hen)
end
abbrev TP:=L2.St->Hp->(List (V×V)->Hp->Prop)->Prop
def aD9(p:V×V)(u:Value×Value):Prop:=aR p.1 u.1/\aR p.2 u.2
def PPr(X:Cx)(keys:List (Option Expr))(vals:List Expr)(t:TP):Prop:=∀ (pos:Pos) (pins:List (Addr×Obj)) (s:Shared) (σ:L2.St) (H:Hp) (Q:List (V×V)->Hp->Prop),Inv X pins σ H s->t σ H Q->
 wpAny (model X.prog X.w) X.A (evalPairs (pairTrees keys vals X.env pos)) (fun vs s'=>∃ ps H',Inv X pins σ H' s'/\Paired aD9 ps vs/\Q ps H') X.xe s
def aFS:TP:=fun _ H Q=>Q [] H
def aEA(tk tv:TE)(t:TP):TP:=fun σ H Q=>tk σ H fun x H1=>tv σ H1 fun y H2=>t σ H2 fun ps H3=>Q ((x,y)::ps) H3
section
variable{X:Cx}{c:Ct}{E:XK}{e a b:Expr}{st:Stmt}{pos:Pos}
theorem aEB:PPr X [] [] aFS:=fun pos pins s σ H Q I h=>evalPairs_nil ⟨[],H,I,.nil,h⟩
theorem aBX{k v:Expr}{ks:List (Option Expr)}{vs:List Expr}{tk tv:TE}{t:TP}(hk:PE X k tk)(hv:PE X v tv)(hr:PPr X ks vs t):PPr X (some k::ks) (v::vs) (aEA tk tv t):=by
 intro pos pins s σ H Q I h
 rw[pairTrees.eq_1]
 refine evalPairs_cons (thn (hk pins s σ H _ I h) fun ku s1 zz0=>?_)
 obtain ⟨x,H1,I1,r1,q1⟩:=zz0
 refine wpAny_bind (thn (hv pins s1 σ H1 _ I1 q1) fun vu s2 zz0=>?_)
 obtain ⟨y,H2,I2,r2,q2⟩:=zz0
 refine wpAny_bind (wpAny_standAt (wpAny_pure ?_))
 exact thn (hr pos pins s2 σ H2 _ I2 q2) fun vs s3 ⟨ps,H3,I3,r3,q3⟩=>⟨(x,y)::ps,H3,I3,.cons ⟨r1,r2⟩ r3,q3⟩
noncomputable def c7:List (PyData×PyData)->List (PyData×PyData)->R (List (PyData×PyData))
 | acc,[]=>.ok acc
 | acc,(k,v)::t=>if bM k (acc.map (·.1))=true/\acc.length<=16777216 then c7 (putM acc k v) t else .bad
def yW(K:Frag)(F:Hp)(p:V×V)(d:PyData×PyData):Prop:=DatV K F p.1 d.1/\DatV K F p.2 d.2
theorem wJ{pins:List (Addr×Obj)}{σ:L2.St}{p:Addr}{F:Hp}(hu:X.A.units+64 < cLine)(kvs:List (PyData×PyData)):∀ (ps:List (V×V)) (vs:List (Value×Value)) (acc res:List (PyData×PyData)) (es:List Ent) (ep:Nat) (H:Hp) (s:Shared) (Q:Shared->Prop),
  Inv X pins σ H s->aF F H->F p=none->H p=some (bL X.w p es ep)->MapRel X.K F es acc->Paired (yW X.K F) ps kvs->Paired aD9 ps vs->c7 acc kvs=.ok res->
  (∀ es' ep' s',Inv X pins σ (upd H p (bL X.w p es' ep')) s'->MapRel X.K F es' res->Q s')->wpAny (model X.prog X.w) X.A (storeAll p vs) (fun _ s=>Q s) X.xe s:=by
 induction kvs with
 | nil=>
  intro ps vs acc res es ep H s Q I sf hf hp m d r e q
  cases d
  cases r
  cases e
  have hs:storeAll p []=pure PUnit.unit:=by unfold storeAll;rw[List.forIn_nil]
  rw[hs]
  refine wpAny_pure (q es ep s ?_ m)
  have:upd H p (bL X.w p es ep)=H:=by
   funext x
   by_cases z:x=p
   ·subst z;rw[aS,hp]
   ·rw[aK z]
  rw[this];exact I
 | cons kv t ih=>
  obtain ⟨k,v⟩:=kv
  intro ps vs acc res es ep H s Q I sf hf hp m d r e q
  cases d with
  | @cons x _ ps _ d ds=>
   cases r with
   | @cons _ u _ vs r rs=>
    unfold c7 at e
    split at e
    ·rename_i hs
     have D:DicAt X H p es k x.1:=⟨⟨ep,hp⟩,fun e he=>(gU m.k1 m.k2 e he).same sf,by rw[m.k1];exact m.nd,d.1.same sf,by rw[m.k1];exact hs.1⟩
     have hl:es.length<=sizeLine:=by
      have:es.length=acc.length:=by simpa using congrArg List.length m.k1
      rw[this,cD];exact hs.2
     have hst:storeAll p (u::vs)=(do dictSet p u.1 u.2;storeAll p vs):=by
      unfold storeAll
      rw[List.forIn_cons]
      simp
     rw[hst]
     refine wpAny_bind (aBW hu D I r.1 r.2 hl fun ep1 s' I'=>?_)
     have m':=m.put d.1 d.2
     have sf':aF F (upd H p (bL X.w p (f9 es k x.1 x.2) ep1)):=fun a o z=>by rw[aK (bK z hf)];exact sf a o z
     refine ih ps vs _ res _ _ _ s' Q I' sf' hf aS m' ds rs e fun es' ep' s'' I'' m''=>?_
     rw[lI] at I''
     exact q es' ep' s'' I'' m''
    ·cases e
def aAS(X:Cx)(tp:TP):TE:=fun σ H Q=>∀ p,H p=none->tp σ (upd H p (bL X.w p [] 0)) fun ps H2=>∃ (F:Hp) (kvs res:List (PyData×PyData)),aF F H2/\F p=none/\H2 p=some (bL X.w p [] 0)/\Paired (yW X.K F) ps kvs/\c7 [] kvs=.ok res /\
 ∀ es' ep',MapRel X.K F es' res->Q (.ref p) (upd H2 p (bL X.w p es' ep'))
theorem aBY{keys:List (Option Expr)}{vals:List Expr}{tp:TP}(hu:X.A.units+64 < cLine)(h:PPr X keys vals tp)(h1:(keys.all fun x=>x.isSome)=true:=by rfl)(h2:keys.length=vals.length:=by rfl)(h3:keys≠[]:=by exact fun z=>nomatch z)(h4:keys.length<=15:=by decide):PE X (.Dict keys vals pos) (aAS X tp):=by
 intro pins s σ H Q I q
 have I1:=I.laid (a:=s.heap.objs.size) (o:=bL X.w s.heap.objs.size [] 0) (t':=s.toks) (fun _ _ q=>Heap.get?_push_of_some {cls:=.type "dict",data:=.dict #[]} q) (Nat.le_refl _)
  (eY (beq_eq_false_iff_ne.mpr (Ne.symm (Nat.ne_of_lt I.big))) ⟨_,#[],Heap.get?_push_size _ rfl,⟨rfl,rfl,rfl⟩,rfl,.nil⟩)
 have q1:=q _ (I.hok.fresh (Nat.le_refl _))
 refine wpAny_Dict_any h1 h2 h3 h4 (thn (h pos pins _ σ _ _ I1 q1) fun vs s2 zz0=>?_)
 obtain ⟨ps,H2,I2,r,F,kvs,res,sf,hf,hp,d,e,z⟩:=zz0
 exact wJ hu kvs ps vs [] res [] 0 H2 s2 _ I2 sf hf hp ⟨rfl,.nil,.nil,List.nodup_nil⟩ d r e fun es' ep' s' I' m=>⟨.ref s.heap.objs.size,_,I',rfl,z es' ep' m⟩
def aEC(c:Ct)(E:XK)(f:Sg->R (List (PyData×PyData))):TP:=fun σ H Q=>∃ ρ F,Ab c ρ σ F H/\Rk c E F H (f ρ) fun kvs=>∀ ps F' H',Ext F H F' H'->Paired (yW c.K F') ps kvs->Q ps H'
abbrev PPf(X:Cx)(c:Ct)(E:XK)(keys:List (Option Expr))(vals:List Expr)(f:Sg->R (List (PyData×PyData))):Prop:=PPr X keys vals (aEC c E f)
theorem PPr.imp{X:Cx}{ks:List (Option Expr)}{vs:List Expr}{t t':TP}(h:PPr X ks vs t)(i:∀ σ H Q,t' σ H Q->t σ H Q):PPr X ks vs t':=fun pos pins s σ H Q I q=>h pos pins s σ H Q I (i σ H Q q)
noncomputable def qZ:Sg->R (List (PyData×PyData)):=fun _=>.ok []
def nN(f g:Sg->R PyData)(r:Sg->R (List (PyData×PyData))):Sg->R (List (PyData×PyData)):=fun ρ=>(f ρ).bind fun x=>(g ρ).bind fun y=>(r ρ).bind fun t=>.ok ((x,y)::t)
theorem aBZ:PPf X c E [] [] qZ:=PPr.imp aEB fun σ H Q ⟨ρ,F,ab,k⟩=>Rk.ok k [] F H (Ext.refl ab.fh) .nil
theorem yX{k v:Expr}{ks:List (Option Expr)}{vs:List Expr}{f g:Sg->R PyData}{r:Sg->R (List (PyData×PyData))}(hk:PD X c E k f)(hv:PD X c E v g)(hr:PPf X c E ks vs r):PPf X c E (some k::ks) (v::vs) (nN f g r):=PPr.imp (aBX hk hv hr) fun σ H Q zz0=>by
 obtain ⟨ρ,F,ab,k⟩:=zz0
 refine ⟨ρ,F,ab,(Rk.bind k).imp fun x _ q v F1 H1 s1 r1=>?_⟩
 refine ⟨ρ,F1,ab.ext s1,((Rk.bind q).ext s1).imp fun y _ q u F2 H2 s2 r2=>?_⟩
 refine ⟨ρ,F2,ab.ext (s1.trans s2),((Rk.bind q).ext (s1.trans s2)).imp fun t _ q ps F3 H3 s3 r3=>?_⟩
 exact Rk.ok q _ F3 H3 ((s1.trans s2).trans s3) (.cons ⟨DatV.same (s2.trans s3).ff r1,DatV.same s3.ff r2⟩ r3)
noncomputable def nO(i:Nat)(f:Sg->R (List (PyData×PyData))):Sg->R Fw:=fun ρ=>(f ρ).bind fun kvs=>(c7 [] kvs).bind fun res=>.ok (.nx (ρ.set i (some (.m res))))
theorem k6:∀ (kvs acc:List (PyData×PyData)) (x:Er),c7 acc kvs≠.ex x
 | [],acc,x,h=>by cases h
 | (k,v)::t,acc,x,h=>by
  unfold c7 at h
  split at h
  · exact k6 t _ x h
  · cases h
theorem aB0{i:Nat}{f:Sg->R (List (PyData×PyData))}(hK:X.K=c.K)(hW:X.w=c.w)(h:PS X st (gY (aAS X (aEC c E f)) (gE i))):PSf X c E st (nO i f):=PS.imp h fun D σ H ⟨ρ,F,ab,k⟩=>fun p hp=>by
 have e1:=Ext.own (F:=F) (o:=bL X.w p [] 0) ab.fh hp
 refine ⟨ρ,F,ab.ext e1,((Rk.bind k).ext e1).imp fun kvs _ q ps F2 H2 s2 r2=>?_⟩
 have hf:F2 p=none:=s2.stay (aW ab.fh hp) aS (fun _ z=>qI z)
 have h2:H2 p=some (bL X.w p [] 0):=s2.hh _ _ aS
 cases e:c7 [] kvs with
 | bad=>rw[e] at q;exact q.elim
 | ex x=>exact absurd e (k6 _ _ _)
 | ok res=>
  rw[e] at q
  refine ⟨F2,kvs,res,s2.fh,hf,h2,by rw[hK];exact r2,e,fun es' ep' m=>?_⟩
  have e3:Ext F H F2 (upd H2 p (bL X.w p es' ep')):=by
   refine ⟨fun a o z=>?_,s2.ff,fun a o z=>?_,fun a z n=>?_⟩
   ·have ne:a≠p:=bK z hp
    rw[aK ne]
    exact s2.hh a o (by rw[aK ne];exact z)
   ·rw[aK (bK z hf)];exact s2.fh a o z
   ·have:=s2.nw a z n
    by_cases w:a=p
    · subst w; exact .inl hp
    · unfold lO at this; rw [aK w] at this; exact this
  rw[hW] at e3 ⊢
  rw[hK] at m
  exact Rk.ok q _ F2 _ s2.ff (ab.setM e3 hp aS hf m)
end
end Fl
namespace Fl
open PySem L2 PyProof.Rows
section
variable{X:Cx}{c:Ct}{E:XK}{e a b:Expr}{st:Stmt}{pos:Pos}
noncomputable def aED(i:Nat)(f g:Sg->R PyData):Sg->R PyData:=fun ρ=>match ρ[i]? with
 | some (some (.m kvs))=>(f ρ).bind fun k=>(g ρ).bind fun y=>if bM k (kvs.map (·.1))=true then .ok ((cI kvs k).getD y) else .bad
 | _=>.bad
end
end Fl
namespace Fl
open PySem L2 PyProof.Rows
section
variable{X:Cx}{c:Ct}{E:XK}
end
end Fl
namespace Fl
open PySem L2 PyProof.Rows
end Fl
namespace Fl
open PySem L2 PyProof.Rows
section
variable{X:Cx}{c:Ct}{E:XK}{e:Expr}{P:Program}{w:World}{base:Heap}
end
end Fl
namespace L2
open PySem PySem.Spec PyProof.Rows
theorem bW.got{P:Program}{w:World}{H:Hp}{h:Heap}{a:Addr}{o:HO}(x:bW P w H h a o):∃ u,h.get? a=some u:=by
 cases o with
 | lst xs=>obtain ⟨_,_,_,_,e⟩:=x;exact ⟨_,e⟩
 | tup xs=>obtain ⟨_,_,_,⟨o,e,_⟩⟩:=x;exact ⟨_,e⟩
 | dK kvs=>obtain ⟨_,_,_,_,o,_,_,e,_⟩:=x;exact ⟨_,e⟩
 | dT kvs=>obtain ⟨_,_,_,_,o,_,_,e,_⟩:=x;exact ⟨_,e⟩
 | set S n=>obtain ⟨o,_,_,_,e,_⟩:=x;exact ⟨_,e⟩
 | ins C dx fs=>obtain ⟨_,_,_,e,_⟩:=x;exact ⟨_,e⟩
 | own y=>exact x
 | xd fs=>obtain ⟨_,⟨_,_,_,e,_⟩,_⟩:=x;exact ⟨_,e⟩
 | rng lo hi=>obtain ⟨_,_,_,e⟩:=x;exact ⟨_,e⟩
 | frz ob u=>exact ⟨_,x.1⟩
 | tbl ps=>obtain ⟨_,e,_⟩:=x;exact ⟨_,e⟩
 | cod q=>obtain ⟨c,o,vs,t,e,ho,_⟩:=x;cases e;exact ⟨_,ho⟩
 | met f y=>exact ⟨_,x⟩
 | ext φ=>exact x.2.1
theorem HOk.free{P:Program}{w:World}{H:Hp}{h:Heap}{a:Addr}(x:HOk P w H h)(e:h.get? a=none):H a=none:=by
 cases q:H a with
 | none=>rfl
 | some u=>
  obtain ⟨o,z⟩:=(x a u q).got
  rw[e] at z;cases z
structure ErrP(K:Frag)(mg:Str->Option Value)(x:Str)(W C:Addr):Prop where
 c:SX.ExcC K W C
 m:mg x=some (.ref C)
 lk:∃ nm q N bs sn sub ab col dd k0 k1 k2 k3 k5,K.lookup C=some (excClassObj nm q C N bs (.ref W::SX.mC) true sn sub ab col dd k0 k1 k2 k3 k5 "ValueError.__new__")/\PySem.W.nsOkIn K N=true/\PySem.W.nsIn K N "__init__"=some none
 lw:∃ c0 dd cd sl,K.lookup W=some ⟨c0,dd,.cls cd,sl⟩/\PySem.W.nsOkIn K cd.ns=true/\PySem.W.nsIn K cd.ns "__init__"=some none
def few(i:Int):Prop:=i=40\/i=60\/i=200\/i=300
end L2
namespace Fl
open PySem L2 PyProof.Rows
instance (i:Int):Decidable (few i):=by unfold few;infer_instance
section
variable{X:Cx}{c:Ct}{E:XK}{st:Stmt}{cn:Str}{C:Addr}
end
end Fl
namespace Fl
open PySem L2 PyProof.Rows
end Fl
namespace HT
open PySem PySem.Spec PyProof.Rows L2
end HT
namespace Fl
open PySem L2 PyProof.Rows
def FnK(K:Frag)(H:Hp)(f:Addr):Prop:=PySem.W.keepIn K (.ref f)=true\/∃ oc od fd sl,H f=some (FnO f ⟨oc,od,.func fd,sl⟩)
theorem FnK.same{K:Frag}{H H':Hp}{f:Addr}(s:aF H H')(h:FnK K H f):FnK K H' f:=h.imp id fun ⟨oc,od,fd,sl,e⟩=>⟨oc,od,fd,sl,s _ _ e⟩
def aHB(m i:Nat)(f:Sg->R (List PyData)):Sg->R PyData:=fun ρ=>match ρ[i]? with
 | some (some (.g k n G))=>(f ρ).bind fun ds=>if k<=m/\ds.length=n then G ds else .bad
 | _=>.bad
noncomputable def aAT:PyData->Bool
 | .none=>true
 | .bool _=>true
 | .int _=>true
 | .str _=>true
 | _=>false
def iC(K:Frag)(F H:Hp):List V->List PyData->Prop
 | [],[]=>True
 | v::vs,d::ds=>aN K F H v d/\iC K F H vs ds
 | _,_=>False
theorem iC.ext{K:Frag}{F H F' H':Hp}(e:Ext F H F' H'):∀ {vs:List V} {ds:List PyData},iC K F H vs ds->iC K F' H' vs ds
 | [],[],_=>trivial
 | v::vs,d::ds,h=>⟨aN.ext e h.1,iC.ext e h.2⟩
theorem iC.len{K:Frag}{F H:Hp}:∀ {vs:List V} {ds:List PyData},iC K F H vs ds->vs.length=ds.length
 | [],[],_=>rfl
 | v::vs,d::ds,h=>by rw[List.length_cons,List.length_cons,iC.len h.2]
theorem aHC{K:Frag}{F H:Hp}(s:aF F H):∀ {vs:List V} {ds:List PyData},iC K F H vs ds->∃ FL,aF F FL/\aF FL H/\DatVs K FL vs ds
 | [],[],_=>⟨F,bR F,s,.nil⟩
 | v::vs,d::ds,h=>by
  obtain ⟨FL,a,b,r⟩:=aHC s h.2
  rcases h.1 with q|⟨p,us,xs,rfl,rfl,h1,h2⟩
  ·exact ⟨FL,a,b,.cons (q.same a) r⟩
  ·refine ⟨fun x=>if x=p then some (.lst us) else FL x,fun x o z=>?_,fun x o z=>?_,?_⟩
   ·by_cases hx:x=p
    ·subst hx
     have:=s x o z
     rw[h1] at this;cases this
     exact if_pos rfl
    ·exact (if_neg hx).trans (a x o z)
   ·by_cases hx:x=p
    ·subst hx
     have z':=(if_pos rfl).symm.trans z
     rw[h1];exact z'
    ·exact b x o ((if_neg hx).symm.trans z)
   ·have sm:aF FL (fun x=>if x=p then some (.lst us) else FL x):=fun x o z=>by
     by_cases hx:x=p
     ·subst hx
      have:=b x o z
      rw[h1] at this;cases this
      exact if_pos rfl
     ·exact (if_neg hx).trans z
    exact .cons (.lst (SqL.of (if_pos rfl)) (h2.same fun x o z=>sm x o (a x o z))) (r.same sm)
def aFT(m i:Nat)(f:Sg->R (List PyData)):Sg->R PyData:=fun ρ=>match ρ[i]? with
 | some (some (.g k n G))=>(f ρ).bind fun ds=>if k<=m/\ds.length=n then (match G ds with | .ok d=>if aAT d=true then .ok d else .bad|_=>.bad) else .bad
 | _=>.bad
end Fl
namespace Fl
open PySem L2 PyProof.Rows
def aFU(P:Program)(w:World)(K:Frag)(mg:Str->Option Value)(base:Heap)(T:Hp)(S:ClSt)(fr:List Str)(k n:Nat)(Gm:List A->List PyData->R PyData):Prop:=
 ∀ (F0 F1:Hp) (caps:List A) (cvs:List V) (f:Addr) (cl:List (Str×Addr)) (doc pm ct:Value) (cc:Addr),aF T F0->AFs (gOf P w K mg base T) K mg F0 caps cvs->aF F0 F1->
  F1 f=some (FnO f (S.obj cl doc pm cc ct))->F1 cc=some (.cod S.qual)->CapAt F1 fr cl cvs->(∀ c∈aBF fr cl,F0 c=none)->Beh P w K mg base T f F1 k n (Gm caps)
theorem AFs.data{g:Gb}{K:Frag}{mg:Str->Option Value}{F:Hp}:∀ {vs:List V} {ds:List PyData},DatVs K F vs ds->AFs g K mg F (ds.map .d) vs
 | _,_,.nil=>trivial
 | _,_,.cons h r=>⟨h,AFs.data r⟩
end Fl
namespace Fl
open PySem L2 PyProof.Rows
def pR(c:Ct)(F:Hp)(S:ClSt)(v:V):Prop:=∃ f cl doc pm cc ct,v=.ref f/\F f=some (FnO f (S.obj cl doc pm cc ct))/\F cc=some (.cod S.qual)/\ClOf c.cells S.scope cl
theorem pR.same{c:Ct}{F F':Hp}{S:ClSt}{v:V}(s:aF F F'):pR c F S v->pR c F' S v:=by
 rintro ⟨f,cl,doc,pm,cc,ct,h1,h2,h3,h4⟩
 exact ⟨f,cl,doc,pm,cc,ct,h1,s _ _ h2,s _ _ h3,h4⟩
noncomputable def aFV:Option (Option A)->Option A
 | some (some (.d x))=>some (.d x)
 | some (some (.x e))=>some (.x e)
 | some (some (.g k n G))=>some (.g k n G)
 | _=>none
noncomputable def wK:List Nat->Sg->Option (List A)
 | [],_=>some []
 | j::js,ρ=>match aFV ρ[j]?,wK js ρ with
  | some a,some as=>some (a::as)
  | _,_=>none
def yY(X:Cx)(T:Hp)(c:Ct)(js:List Nat)(ρ:Sg)(F:Hp)(a:A)(v:V):Prop:=AF c.g c.K c.mg F a v \/
 ∃ S fr sl k n Gm caps,a=.g k n (Gm caps)/\pR c F S v/\aFU X.prog X.w X.K X.mg X.base T S fr k n Gm/\(∀ y,(y,NameKind.free)∈S.scope.names->y∈fr)/\(∀ y∈fr,(y,NameKind.free)∈S.scope.names)/\sl.map (fun j=>X.N[j]?)=fr.map some/\(∀ j∈sl,j∈js)/\wK sl ρ=some caps
theorem yY.same{X:Cx}{T:Hp}{c:Ct}{js:List Nat}{ρ:Sg}{F F':Hp}{a:A}{v:V}(s:aF F F')(h:yY X T c js ρ F a v):yY X T c js ρ F' a v:=by
 rcases h with h|⟨S,fr,sl,k,n,Gm,caps,h1,h2,h3⟩
 · exact .inl (AF.same s h)
 · exact .inr ⟨S, fr, sl, k, n, Gm, caps, h1, h2.same s, h3⟩
end Fl
namespace Fl
open PySem L2 PyProof.Rows
section
variable{P:Program}{w:World}{K:Frag}{mg:Str->Option Value}{base:Heap}{T:Hp}
structure DefAtT(K:Frag)(mg:Str->Option Value)(base:Heap)(T:Hp)(qs:List (Pos×Str))(x:Str)(st:Stmt)(ps:List Str):Prop where
 ex:∃ f oc od kV doc pm an c0 ct osl P0,K.lookup f=some ⟨oc,od,.func (PySem.W.fnOf x x (eX st) (dC st) (aP st) .none kV doc pm an (.ref c0) ct),osl⟩/\PySem.W.codeIn K (.ref c0) x=true/\PySem.W.keepIn K (.ref f)=true /\
  gF K (PySem.W.fnOf x x (eX st) (dC st) (aP st) .none kV doc pm an (.ref c0) ct) ps []/\mg x=some (.ref f)/\Tb mg base c0 P0/\T P0=some (.tbl qs)
end
end Fl
namespace Fl
open PySem L2 PyProof.Rows
end Fl
namespace Zp
open PySem
section
variable{prog:Program}{w:World}{A:Around}{E:Value->Shared->Prop}{s:Shared}
theorem lW{it t:Addr}{i:Nat}{items}{x:Value}{Q:Value->Shared->Prop}(hit:s.heap.IsTupleIter it t i)
  (ht:s.heap.IsTuple t items) (hx:items[i]? = some x) (hQ:∀ h',h'.IsTupleIter it t (i+1)->Heap.SameBut it s.heap h'->Q x {s with heap:=h'}) :
  wpAny (model prog w) A (Builtin.SmallTypes.nextOf (.ref it)) Q E s:=by
 obtain ⟨o,ho,hc,hd⟩:=id hit
 obtain ⟨ol,hol,_,nl,hdl⟩:=ht
 unfold Builtin.SmallTypes.nextOf
 refine wpAny_bind (wpAny_callSpecial?_slot (name:=Str.ofString "__next__") hit.typeIs F.slot_tuple_iterator_next
  (wpAny_call_entry F.slot_tuple_iterator_next hit.typeIs F.entry_tuple_iterator_next ?_ (F.args_tuple_iterator_next_1 _)))
 show wpAny _ _ (field (.ref it) 0 >>= _) _ _ s
 refine wpAny_bind (wpAny_field ho hd (x:=.ref t) rfl ?_)
 show wpAny _ _ (if (Value.ref t == Value.none)=true then _ else _) _ _ s
 rw[if_neg (show ¬ ((Value.ref t == Value.none)=true) from Bool.false_ne_true)]
 show wpAny _ _ (field (.ref it) 1 >>= _) _ _ s
 refine wpAny_bind (wpAny_field ho hd (x:=.int i 0) rfl ?_)
 show wpAny _ _ (seqItems? (.ref t) >>= _) _ _ s
 refine wpAny_bind (wpAny_seqItems hol hdl ?_)
 simp only[Int.toNat_natCast,hx]
 refine wpAny_bind (wpAny_setField ho hd (by simp) (wpAny_pure ⟨x,rfl,wpAny_pure (hQ _ ?_ (Heap.SameBut.update ..))⟩))
 exact ⟨_,Heap.get?_update_self _ ho (Obj.isFreed_of_fields (Obj.data_mapFields hd _)),(Obj.cls_mapFields ..).trans hc,by
  rw[Obj.data_mapFields hd];simp[rawInt]⟩
theorem mJ{it t:Addr}{i:Nat}{items}{Q:Value->Shared->Prop}(hh:A.handled=none)
  (hit:s.heap.IsTupleIter it t i) (ht:s.heap.IsTuple t items) (hx:items[i]? = none)
  (hE:∀ h' e,Heap.ExtBut it s.heap h'->(∃ o,h'.get? e=some o/\o.cls=.type "StopIteration")->E (.ref e) {s with heap:=h'}) :
  wpAny (model prog w) A (Builtin.SmallTypes.nextOf (.ref it)) Q E s:=by
 obtain ⟨o,ho,hc,hd⟩:=id hit
 obtain ⟨ol,hol,_,nl,hdl⟩:=ht
 unfold Builtin.SmallTypes.nextOf
 refine wpAny_bind (wpAny_callSpecial?_slot (name:=Str.ofString "__next__") hit.typeIs F.slot_tuple_iterator_next
  (wpAny_call_entry F.slot_tuple_iterator_next hit.typeIs F.entry_tuple_iterator_next ?_ (F.args_tuple_iterator_next_1 _)))
 show wpAny _ _ (field (.ref it) 0 >>= _) _ _ s
 refine wpAny_bind (wpAny_field ho hd (x:=.ref t) rfl ?_)
 show wpAny _ _ (if (Value.ref t == Value.none)=true then _ else _) _ _ s
 rw[if_neg (show ¬ ((Value.ref t == Value.none)=true) from Bool.false_ne_true)]
 show wpAny _ _ (field (.ref it) 1 >>= _) _ _ s
 refine wpAny_bind (wpAny_field ho hd (x:=.int i 0) rfl ?_)
 show wpAny _ _ (seqItems? (.ref t) >>= _) _ _ s
 refine wpAny_bind (wpAny_seqItems hol hdl ?_)
 simp only[Int.toNat_natCast,hx]
 refine wpAny_bind (wpAny_rule (wpAny_bind (wpAny_setField ho hd (by simp) ?_)))
 show wpAny _ _ (newExc (.type "StopIteration") [] >>= _) _ _ _
 refine wpAny_bind ?_
 simp only[newExc,newTuple]
 refine wpAny_bind (wpAny_newObj_type ?_ (by size_fits))
 refine wpAny_bind (m:=firstArgMember _ _) (wpAny_of_eq (a:=Value.none) (by first|rfl|(simp only[firstArgMember];rfl)) ?_)
 refine wpAny_newObj_type ?_ (by size_fits)
 simp only[raiseNew]
 refine wpAny_bind (wpAny_handled ?_)
 first|rw[show A.in1.handled=none from hh]|rw[hh]
 refine wpAny_bind (wpAny_pure (wpAny_throw ?_))
 exact hE _ _ (((Heap.SameBut.update ..).extBut.push _).push _) ⟨_,Heap.get?_push_size _ rfl,rfl⟩
end
theorem sA{prog:Program}{w:World}{A:Around}(hh:A.handled=none)(it l:Addr)(hne:l≠it)(items:Array Value) :
  Draws prog w A it [it,l] items.size (fun i v=>items[i]? = some v) (fun i h=>h.IsTupleIter it l i/\h.IsTuple l items) where
 live:=fun _ _ st=>let ⟨o,ho,_⟩:=st.1;⟨o,ho⟩
 frame:=fun _ _ _ st hk=>⟨let ⟨o,ho,r⟩:=st.1;⟨o,hk it (by simp) o ho,r⟩,let ⟨o,ho,r⟩:=st.2;⟨o,hk l (by simp) o ho,r⟩⟩
 item:=fun i s Q E hi st hQ=>by
  refine lW st.1 st.2 (x:=items[i]) (by simp[hi]) fun h' hit' hs'=>?_
  exact hQ _ h' s.toks (by simp[hi]) ⟨hit',st.2.extBut hs'.extBut hne⟩ hs'
 done:=fun s Q E st hE=>mJ hh st.1 st.2 (by simp) hE
structure Apart(z TI TO i1 i2:Addr)(f1 f2:List Addr):Prop where
 TIz:TI≠z
 TOz:TO≠z
 i1z:i1≠z
 i2z:i2≠z
 TITO:TI≠TO
 TIi1:TI≠i1
 TIi2:TI≠i2
 TOi1:TO≠i1
 TOi2:TO≠i2
 i12:i1≠i2
 z1:z∉f1
 z2:z∉f2
 t1:TO∉f1
 t2:TO∉f2
 i1f2:i1∉f2
 i2f1:i2∉f1
section
variable{prog:Program}{w:World}{A:Around}{E:Value->Shared->Prop}{s:Shared}
theorem yZ{z TI TO i1 i2:Addr}{f1 f2:List Addr}{n1 n2 i:Nat}{P1 P2:Nat->Value->Prop}{S1 S2:Nat->Heap->Prop}{a b:Value}{Q:Value->Shared->Prop}(D:Apart z TI TO i1 i2 f1 f2)
  (D1:Draws prog w A i1 f1 n1 P1 S1) (D2:Draws prog w A i2 f2 n2 P2 S2)
  (hz:IsZip s.heap z TI TO .none) (hTI:IsPair s.heap TI (.ref i1) (.ref i2)) (hTO:IsPair s.heap TO a b) (h1:S1 i s.heap) (h2:S2 i s.heap) (l1:i < n1) (l2:i < n2)
  (hQ:∀ x y h' tk,P1 i x->P2 i y->IsZip h' z TI TO (rawInt s.heap.objs.size)->IsPair h' TO x y->S1 (i+1) h'->S2 (i+1) h'->IsPair h' s.heap.objs.size x y->h'.objs.size=s.heap.objs.size+1->
   (∀ c o,c≠z->c≠TO->c≠i1->c≠i2->s.heap.get? c=some o->h'.get? c=some o)->Q (.ref s.heap.objs.size) {s with heap:=h',toks:=tk}) :
  wpAny (model prog w) A (Builtin.«zip.__next__» ⟨[.ref z],[]⟩) (fun fin s'=>∃ v,fin=.done (.ret v)/\Q v s') E s:=by
 show wpAny _ _ (field (.ref z) 2 >>= _) _ _ _
 refine wpAny_bind (wpAny_field hz rfl (x:=.bool false) rfl ?_)
 show wpAny _ _ (field (.ref z) 3 >>= _) _ _ _
 refine wpAny_bind (wpAny_field hz rfl (x:=.ref TI) rfl ?_)
 refine wpAny_bind (wpAny_seqItems hTI rfl ?_)
 show wpAny _ _ (Builtin.SmallTypes.ownedTupleIsFree (.ref z) >>= _) _ _ _
 refine wpAny_bind ?_
 unfold Builtin.SmallTypes.ownedTupleIsFree
 refine wpAny_bind (wpAny_field hz rfl (x:=.none) rfl (wpAny_pure ?_))
 simp only[if_true]
 refine wpAny_bind (wpAny_rule ?_)
 refine wpAny_bind (wpAny_field hz rfl (x:=.ref TO) rfl ?_)
 refine wpAny_bind (wpAny_setField_rec hz (by simp) fun h₁ hz₁ hs₁=>?_)
 replace hz₁:IsZip h₁ z TI TO .ellipsis:=hz₁
 refine wpAny_bind ?_
 simp only[List.zipIdx_cons,List.zipIdx_nil,List.forIn_cons,List.forIn_nil]
 have fr:∀ {f:List Addr} {c:Addr} {g g':Heap},Heap.SameBut c g g'->c∉f->∀ b∈f,∀ o,g.get? b=some o->g'.get? b=some o:=fun hs hc b hb o e=>hs.extBut _ _ (fun z=>hc (z▸hb)) e
 refine wpAny_bind (wpAny_bind (wpAny_onRaise ?_))
 show wpAny _ _ (Builtin.SmallTypes.nextOf (.ref i1) >>= _) _ _ _
 refine wpAny_bind (D1.item i {s with heap:=h₁} _ _ l1 (D1.frame _ _ _ h1 (fr hs₁ D.z1)) fun x h₂ tk1 px h1₂ hs₂=>wpAny_pure ?_)
 have hTO₂:IsPair h₂ TO a b:=hs₂.extBut _ _ D.TOi1 (hs₁.extBut _ _ D.TOz hTO)
 refine wpAny_bind (wpAny_seqItems hTO₂ rfl ?_)
 refine wpAny_bind (wpAny_updateSeq_pair hTO₂ fun h₃ hTO₃ hs₃=>?_)
 replace hTO₃:IsPair h₃ TO x b:=hTO₃
 refine wpAny_bind (wpAny_letGo (wpAny_pure ?_))
 refine wpAny_bind (wpAny_bind (wpAny_onRaise ?_))
 show wpAny _ _ (Builtin.SmallTypes.nextOf (.ref i2) >>= _) _ _ _
 refine wpAny_bind (D2.item i {s with heap:=h₃,toks:=tk1} _ _ l2 (D2.frame _ _ _ (D2.frame _ _ _ (D2.frame _ _ _ h2 (fr hs₁ D.z2)) (fr hs₂ D.i1f2)) (fr hs₃ D.t2)) fun y h₄ tk2 py h2₄ hs₄=>wpAny_pure ?_)
 have hs₄:Heap.SameBut i2 h₃ h₄:=hs₄
 have hs₂:Heap.SameBut i1 h₁ h₂:=hs₂
 have hTO₄:IsPair h₄ TO x b:=hs₄.extBut _ _ D.TOi2 hTO₃
 refine wpAny_bind (wpAny_seqItems hTO₄ rfl ?_)
 refine wpAny_bind (wpAny_updateSeq_pair hTO₄ fun h₅ hTO₅ hs₅=>?_)
 replace hTO₅:IsPair h₅ TO x y:=hTO₅
 refine wpAny_bind (wpAny_letGo (wpAny_pure (wpAny_pure ?_)))
 refine wpAny_bind (wpAny_seqItems hTO₅ rfl ?_)
 refine wpAny_bind (wpAny_newTuple ?_)
 have hsz:h₅.objs.size=s.heap.objs.size:=by rw[hs₅.1];show h₄.objs.size=_;rw[hs₄.1,hs₃.1];show h₂.objs.size=_;rw[hs₂.1,hs₁.1]
 have hs₃:Heap.SameBut TO h₂ h₃:=hs₃
 have hs₅:Heap.SameBut TO h₄ h₅:=hs₅
 have hz₅:IsZip h₅ z TI TO .ellipsis:=hs₅.extBut _ _ D.TOz.symm (hs₄.extBut _ _ D.i2z.symm (hs₃.extBut _ _ D.TOz.symm (hs₂.extBut _ _ D.i1z.symm hz₁)))
 have hk₅:∀ c o,c≠z->c≠TO->c≠i1->c≠i2->s.heap.get? c=some o->h₅.get? c=some o:=fun c o c1 c2 c3 c4 e=>
  hs₅.extBut _ _ c2 (hs₄.extBut _ _ c4 (hs₃.extBut _ _ c2 (hs₂.extBut _ _ c3 (hs₁.extBut _ _ c1 e))))
 have h1₅:S1 (i+1) h₅:=D1.frame _ _ _ (D1.frame _ _ _ (D1.frame _ _ _ h1₂ (fr hs₃ D.t1)) (fr hs₄ D.i2f1)) (fr hs₅ D.t1)
 have h2₅:S2 (i+1) h₅:=D2.frame _ _ _ h2₄ (fr hs₅ D.t2)
 have hzlt:z < h₅.objs.size:=Heap.lt_size hz₅
 show wpAny _ _ (Builtin.SmallTypes.ownedTupleHandOut (.ref z) (.ref h₅.objs.size) >>= _) _ _ _
 refine wpAny_bind ?_
 unfold Builtin.SmallTypes.ownedTupleHandOut
 have hz₆:IsZip (h₅.push {cls:=.type "tuple",data:=.seq #[x,y]}) z TI TO .ellipsis:=Heap.get?_push_of_some _ hz₅
 refine wpAny_bind (wpAny_setField_rec hz₆ (by simp) fun h₇ hz₇ hs₇=>?_)
 replace hz₇:IsZip h₇ z TI TO (rawInt h₅.objs.size):=hz₇
 refine wpAny_setField_rec hz₇ (by simp) fun h₈ hz₈ hs₈=>?_
 replace hz₈:IsZip h₈ z TI TO (rawInt h₅.objs.size):=hz₈
 have up:∀ c o,c≠z->h₅.get? c=some o->h₈.get? c=some o:=fun c o c1 e=>hs₈.extBut _ _ c1 (hs₇.extBut _ _ c1 (Heap.get?_push_of_some _ e))
 have hT₈:IsPair h₈ h₅.objs.size x y:=hs₈.extBut _ _ (Nat.ne_of_gt hzlt) (hs₇.extBut _ _ (Nat.ne_of_gt hzlt) (Heap.get?_push_size _ rfl))
 have hz8:h₈.objs.size=h₅.objs.size+1:=by rw[hs₈.1,hs₇.1,Heap.size_push]
 rw[hsz] at hz₈ hT₈ hz8
 refine wpAny_pure ⟨_,rfl,?_⟩
 show Q (.ref h₅.objs.size) _
 rw[hsz]
 exact hQ x y h₈ tk2 px py hz₈ (up _ _ D.TOz hTO₅) (D1.frame _ _ _ h1₅ fun b hb o e=>up b o (fun q=>D.z1 (q▸hb)) e) (D2.frame _ _ _ h2₅ fun b hb o e=>up b o (fun q=>D.z2 (q▸hb)) e) hT₈ hz8 fun c o c1 c2 c3 c4 e=>up c o c1 (hk₅ c o c1 c2 c3 c4 e)
theorem aB1{z TI TO i1 i2:Addr}{f1 f2:List Addr}{n1 n2 i:Nat}{P1 P2:Nat->Value->Prop}{S1 S2:Nat->Heap->Prop}{a b:Value}{Q:Fin->Shared->Prop}(D:Apart z TI TO i1 i2 f1 f2)
  (D1:Draws prog w A i1 f1 n1 P1 S1) (D2:Draws prog w A i2 f2 n2 P2 S2)
  (hz:IsZip s.heap z TI TO .none) (hTI:IsPair s.heap TI (.ref i1) (.ref i2)) (hTO:IsPair s.heap TO a b) (h1:S1 i s.heap) (h2:S2 i s.heap) (hend:i=n1\/(i < n1/\i=n2))
  (hE:∀ h' tk e,(∀ c o,c≠z->c≠TO->c≠i1->c≠i2->s.heap.get? c=some o->h'.get? c=some o)->(∃ o,h'.get? e=some o/\o.cls=.type "StopIteration")->E (.ref e) {s with heap:=h',toks:=tk}) :
  wpAny (model prog w) A (Builtin.«zip.__next__» ⟨[.ref z],[]⟩) Q E s:=by
 show wpAny _ _ (field (.ref z) 2 >>= _) _ _ _
 refine wpAny_bind (wpAny_field hz rfl (x:=.bool false) rfl ?_)
 show wpAny _ _ (field (.ref z) 3 >>= _) _ _ _
 refine wpAny_bind (wpAny_field hz rfl (x:=.ref TI) rfl ?_)
 refine wpAny_bind (wpAny_seqItems hTI rfl ?_)
 show wpAny _ _ (Builtin.SmallTypes.ownedTupleIsFree (.ref z) >>= _) _ _ _
 refine wpAny_bind ?_
 unfold Builtin.SmallTypes.ownedTupleIsFree
 refine wpAny_bind (wpAny_field hz rfl (x:=.none) rfl (wpAny_pure ?_))
 simp only[if_true]
 refine wpAny_bind (wpAny_rule ?_)
 refine wpAny_bind (wpAny_field hz rfl (x:=.ref TO) rfl ?_)
 refine wpAny_bind (wpAny_setField_rec hz (by simp) fun h₁ hz₁ hs₁=>?_)
 replace hz₁:IsZip h₁ z TI TO .ellipsis:=hz₁
 refine wpAny_bind ?_
 simp only[List.zipIdx_cons,List.zipIdx_nil,List.forIn_cons,List.forIn_nil]
 have fr:∀ {f:List Addr} {c:Addr} {g g':Heap},Heap.SameBut c g g'->c∉f->∀ b∈f,∀ o,g.get? b=some o->g'.get? b=some o:=fun hs hc b hb o e=>hs.extBut _ _ (fun z=>hc (z▸hb)) e
 refine wpAny_bind (wpAny_bind (wpAny_onRaise ?_))
 show wpAny _ _ (Builtin.SmallTypes.nextOf (.ref i1) >>= _) _ _ _
 rcases hend with rfl|⟨l1,rfl⟩
 ·refine wpAny_bind (D1.done {s with heap:=h₁} _ _ (D1.frame _ _ _ h1 (fr hs₁ D.z1)) fun h₂ e hs₂ he=>?_)
  obtain ⟨oe,hoe,hce⟩:=he
  have hz₂:IsZip h₂ z TI TO .ellipsis:=hs₂ _ _ D.i1z.symm hz₁
  have hez:e≠z:=fun x=>by subst x;rw[hz₂] at hoe;cases hoe;simp at hce
  refine wpAny_setField_rec hz₂ (by simp) fun h₃ _ hs₃=>hE h₃ s.toks e (fun c o c1 _ c3 _ x=>hs₃.extBut _ _ c1 (hs₂ _ _ c3 (hs₁.extBut _ _ c1 x))) ⟨oe,hs₃.extBut _ _ hez hoe,hce⟩
 ·refine wpAny_bind (D1.item i {s with heap:=h₁} _ _ l1 (D1.frame _ _ _ h1 (fr hs₁ D.z1)) fun x h₂ tk1 px h1₂ hs₂=>wpAny_pure ?_)
  have hs₂:Heap.SameBut i1 h₁ h₂:=hs₂
  have hTO₂:IsPair h₂ TO a b:=hs₂.extBut _ _ D.TOi1 (hs₁.extBut _ _ D.TOz hTO)
  refine wpAny_bind (wpAny_seqItems hTO₂ rfl ?_)
  refine wpAny_bind (wpAny_updateSeq_pair hTO₂ fun h₃ hTO₃ hs₃=>?_)
  have hs₃:Heap.SameBut TO h₂ h₃:=hs₃
  refine wpAny_bind (wpAny_letGo (wpAny_pure ?_))
  refine wpAny_bind (wpAny_bind (wpAny_onRaise ?_))
  show wpAny _ _ (Builtin.SmallTypes.nextOf (.ref i2) >>= _) _ _ _
  refine wpAny_bind (D2.done {s with heap:=h₃,toks:=tk1} _ _ (D2.frame _ _ _ (D2.frame _ _ _ (D2.frame _ _ _ h2 (fr hs₁ D.z2)) (fr hs₂ D.i1f2)) (fr hs₃ D.t2)) fun h₄ e hs₄ he=>?_)
  have hs₄:Heap.ExtBut i2 h₃ h₄:=hs₄
  obtain ⟨oe,hoe,hce⟩:=he
  have hz₄:IsZip h₄ z TI TO .ellipsis:=hs₄ _ _ D.i2z.symm (hs₃.extBut _ _ D.TOz.symm (hs₂.extBut _ _ D.i1z.symm hz₁))
  have hez:e≠z:=fun x=>by subst x;rw[hz₄] at hoe;cases hoe;simp at hce
  refine wpAny_setField_rec hz₄ (by simp) fun h₅ _ hs₅=>hE h₅ tk1 e (fun c o c1 c2 c3 c4 x=>hs₅.extBut _ _ c1 (hs₄ _ _ c4 (hs₃.extBut _ _ c2 (hs₂.extBut _ _ c3 (hs₁.extBut _ _ c1 x))))) ⟨oe,hs₅.extBut _ _ hez hoe,hce⟩
theorem wL{z TI TO i1 i2:Addr}{f1 f2:List Addr}{n1 n2 i:Nat}{P1 P2:Nat->Value->Prop}{S1 S2:Nat->Heap->Prop}{a b:Value}{Q:Option Value->Shared->Prop}(D:Apart z TI TO i1 i2 f1 f2)
  (D1:Draws prog w A.in1 i1 f1 n1 P1 S1) (D2:Draws prog w A.in1 i2 f2 n2 P2 S2)
  (hz:IsZip s.heap z TI TO .none) (hTI:IsPair s.heap TI (.ref i1) (.ref i2)) (hTO:IsPair s.heap TO a b) (h1:S1 i s.heap) (h2:S2 i s.heap) (l1:i < n1) (l2:i < n2)
  (hQ:∀ x y h' tk,P1 i x->P2 i y->IsZip h' z TI TO (rawInt s.heap.objs.size)->IsPair h' TO x y->S1 (i+1) h'->S2 (i+1) h'->IsPair h' s.heap.objs.size x y->h'.objs.size=s.heap.objs.size+1->
   (∀ c o,c≠z->c≠TO->c≠i1->c≠i2->s.heap.get? c=some o->h'.get? c=some o)->Q (some (.ref s.heap.objs.size)) {s with heap:=h',toks:=tk}) :
  wpAny (model prog w) A (pyNext (.ref z)) Q E s:=by
 have hT:s.TypeIs (.ref z) "zip":=⟨_,hz,rfl⟩
 unfold pyNext
 exact wpAny_bind (wpAny_attempt (wpAny_callSpecial?_slot (name:=Str.ofString "__next__") hT F.slot_zip_next
  (wpAny_call_entry F.slot_zip_next hT F.entry_zip_next
   (yZ D D1 D2 hz hTI hTO h1 h2 l1 l2 fun x y h' tk p1 p2 a1 a2 a3 a4 a5 a6 a7=>wpAny_pure (hQ x y h' tk p1 p2 a1 a2 a3 a4 a5 a6 a7)) (F.args_zip_next_1 _))))
theorem y0{z TI TO i1 i2:Addr}{f1 f2:List Addr}{n1 n2 i:Nat}{P1 P2:Nat->Value->Prop}{S1 S2:Nat->Heap->Prop}{a b:Value}{Q:Option Value->Shared->Prop}(D:Apart z TI TO i1 i2 f1 f2)
  (D1:Draws prog w A.in1 i1 f1 n1 P1 S1) (D2:Draws prog w A.in1 i2 f2 n2 P2 S2)
  (hz:IsZip s.heap z TI TO .none) (hTI:IsPair s.heap TI (.ref i1) (.ref i2)) (hTO:IsPair s.heap TO a b) (h1:S1 i s.heap) (h2:S2 i s.heap) (hend:i=n1\/(i < n1/\i=n2))
  (hQ:∀ h' tk,(∀ c o,c≠z->c≠TO->c≠i1->c≠i2->s.heap.get? c=some o->h'.get? c=some o)->Q none {s with heap:=h',toks:=tk}):wpAny (model prog w) A (pyNext (.ref z)) Q E s:=by
 have hT:s.TypeIs (.ref z) "zip":=⟨_,hz,rfl⟩
 unfold pyNext
 refine wpAny_bind (wpAny_attempt (wpAny_callSpecial?_slot (name:=Str.ofString "__next__") hT F.slot_zip_next
  (wpAny_call_entry F.slot_zip_next hT F.entry_zip_next (aB1 D D1 D2 hz hTI hTO h1 h2 hend fun h' tk e hk he=>?_) (F.args_zip_next_1 _))))
 obtain ⟨o,ho,hc⟩:=he
 refine wpAny_bind (wpAny_isInstance (T:="StopIteration") (b:=true) ⟨o,ho,hc⟩ isSubtype_stop ?_)
 exact wpAny_pure (hQ _ _ hk)
end
def iP(v:Value)(o:Obj)(h:Heap):Prop:=∀ (prog:Program) (w:World) (A:Around) (E:Value->Shared->Prop) (s:Shared) (Q:Value->Shared->Prop),s.heap=h->Q (.ref h.objs.size) {s with heap:=h.push o}->wpAny (model prog w) A (pyIter v) Q E s
noncomputable abbrev H2(h:Heap)(o1 o2:Obj):Heap:=(h.push o1).push o2
noncomputable abbrev H3(h:Heap)(o1 o2:Obj):Heap:=(H2 h o1 o2).push {cls:=.type "tuple",data:=.seq #[.ref h.objs.size,.ref (h.push o1).objs.size]}
noncomputable abbrev H4(h:Heap)(o1 o2:Obj):Heap:=(H3 h o1 o2).push {cls:=.type "tuple",data:=.seq #[.none,.none]}
noncomputable abbrev H5(h:Heap)(o1 o2:Obj):Heap:=(H4 h o1 o2).push {cls:=.type "zip",data:=.fields #[.none,.bool false,.bool false,.ref (H2 h o1 o2).objs.size,.ref (H3 h o1 o2).objs.size]}
theorem wM(v1 v2:Value)(o1 o2:Obj) :
  Meets (Builtin.«zip.__new__» ⟨[.type "zip",v1,v2],[]⟩) (fun _ R s=>iP v1 o1 s.heap/\iP v2 o2 (s.heap.push o1) /\
   R (.ok (.ret (.ref (H4 s.heap o1 o2).objs.size))) {s with heap:=H5 s.heap o1 o2}):=
 .of_wp fun prog w A R s h=>by
  obtain ⟨hp,g,d,tk,os⟩:=s;obtain ⟨hl1,hl2,h⟩:=h
  have hsub:=sub_zip
  have p1:∀ {A:Around} {E:Value->Shared->Prop} {Q:Value->Shared->Prop},Q (.ref hp.objs.size) ⟨hp.push o1,g,d,tk,os⟩->wpAny (model prog w) A (pyIter v1) Q E ⟨hp,g,d,tk,os⟩:=fun hq=>hl1 prog w _ _ ⟨hp,g,d,tk,os⟩ _ rfl hq
  have p2:∀ {A:Around} {E:Value->Shared->Prop} {Q:Value->Shared->Prop},Q (.ref (hp.push o1).objs.size) ⟨(hp.push o1).push o2,g,d,tk,os⟩->wpAny (model prog w) A (pyIter v2) Q E ⟨hp.push o1,g,d,tk,os⟩:=fun hq=>hl2 prog w _ _ ⟨hp.push o1,g,d,tk,os⟩ _ rfl hq
  wp_walk using p1,p2
  exact ⟨_,rfl,h⟩
end Zp
namespace Zp
open PySem
section
variable{prog:Program}{w:World}{A:Around}{E:Value->Shared->Prop}{s:Shared}
theorem q9{v1 v2:Value}{o1 o2:Obj}{Q:Value->Shared->Prop}(h1:iP v1 o1 s.heap)(h2:iP v2 o2 (s.heap.push o1))(f1:o1.isFreed=false)(f2:o2.isFreed=false)
  (h:∀ h',IsZip h' (s.heap.objs.size+4) (s.heap.objs.size+2) (s.heap.objs.size+3) .none->IsPair h' (s.heap.objs.size+2) (.ref s.heap.objs.size) (.ref (s.heap.objs.size+1))->
   IsPair h' (s.heap.objs.size+3) .none .none->h'.get? s.heap.objs.size=some o1->h'.get? (s.heap.objs.size+1)=some o2->h'.objs.size=s.heap.objs.size+5->
   (∀ c o,s.heap.get? c=some o->h'.get? c=some o)->Q (.ref (s.heap.objs.size+4)) {s with heap:=h'}) :
  wpAny (model prog w) A (call (.type "zip") [v1,v2]) Q E s:=by
 refine callType_new F.called_zip (by decide) (F.typeCall_zip_2 _ _) (F.newCall_zip_2 _ _) (fun obj=>F.args_object_init_3 obj _ _) F.entry_zip_new
  (wM v1 v2 o1 o2) ⟨h1,h2,?_⟩
 have z1:(s.heap.push o1).objs.size=s.heap.objs.size+1:=Heap.size_push ..
 have z2:(H2 s.heap o1 o2).objs.size=s.heap.objs.size+2:=by rw[Heap.size_push,z1]
 have z3:(H3 s.heap o1 o2).objs.size=s.heap.objs.size+3:=by rw[Heap.size_push,z2]
 have z4:(H4 s.heap o1 o2).objs.size=s.heap.objs.size+4:=by rw[Heap.size_push,z3]
 have z5:(H5 s.heap o1 o2).objs.size=s.heap.objs.size+5:=by rw[Heap.size_push,z4]
 have g5:(H5 s.heap o1 o2).get? (H4 s.heap o1 o2).objs.size=some _:=Heap.get?_push_size _ rfl
 have g4:(H5 s.heap o1 o2).get? (H3 s.heap o1 o2).objs.size=some _:=Heap.get?_push_of_some _ (Heap.get?_push_size _ rfl)
 have g3:(H5 s.heap o1 o2).get? (H2 s.heap o1 o2).objs.size=some _:=Heap.get?_push_of_some _ (Heap.get?_push_of_some _ (Heap.get?_push_size _ rfl))
 have g2:(H5 s.heap o1 o2).get? (s.heap.push o1).objs.size=some o2:=Heap.get?_push_of_some _ (Heap.get?_push_of_some _ (Heap.get?_push_of_some _ (Heap.get?_push_size _ f2)))
 have g1:(H5 s.heap o1 o2).get? s.heap.objs.size=some o1:=Heap.get?_push_of_some _ (Heap.get?_push_of_some _ (Heap.get?_push_of_some _ (Heap.get?_push_of_some _ (Heap.get?_push_size _ f1))))
 show _/\_
 rw[z2,z3,z4] at g5
 rw[z1,z2] at g3
 rw[z3] at g4
 rw[z1] at g2
 rw[z4]
 exact ⟨⟨_,g5,rfl⟩,h _ g5 g3 g4 g1 g2 z5 fun c o x=>
  Heap.get?_push_of_some _ (Heap.get?_push_of_some _ (Heap.get?_push_of_some _ (Heap.get?_push_of_some _ (Heap.get?_push_of_some _ x))))⟩
end
end Zp
namespace L2
open PySem PySem.Spec PyProof.Rows
abbrev Col:=Hp->List V->Prop
structure ColOk(P:Program)(w:World)(K:Frag)(C:Col)(it:Addr)(tn:Nat->Heap->Prop):Prop where
 obj:∀ i h,tn i h->∃ o,h.get? it=some o/\∀ v,o.data≠.cell v
 keep:∀ i h h',tn i h->(∀ o,h.get? it=some o->h'.get? it=some o)->tn i h'
 one:∀ (X:Cx),X.prog=P->X.w=w->X.K=K->∀ pins s σ H xs ys,Inv X pins σ H s->C H xs->C H ys->xs=ys
 draw:∀ (X:Cx),X.prog=P->X.w=w->X.K=K->∀ (i:Nat) (pins:List (Addr×Obj)) (s:Shared) (σ:St) (H:Hp) (xs:List V) (A:Around),Inv X pins σ H s->eI X pins H it->tn i s.heap->C H xs->A.handled=none->
  ∃ fp Pv St,Draws P w A it fp xs.length Pv St/\St i s.heap/\(∀ j h,St j h->tn j h)/\(∀ j v,Pv j v->∃ x,xs[j]? = some x/\aR x v)/\∀ b,eI X pins H b->b≠it->b∉fp
theorem sZ{X:Cx}{pins:List (Addr×Obj)}{σ:St}{H:Hp}{s:Shared}{b a:Addr}{o:Obj}(I:Inv X pins σ H s)(hf:eI X pins H b)(e:X.base.get? a=some o):b≠a:=by
 obtain ⟨_,_,_,h4,_⟩:=hf
 intro z
 rcases h4 with z2|z2
 ·exact I.ok.noex a o e (z▸z2)
 ·have h5:=Heap.lt_size e
  have h6:=I.ok.bsz
  rw[z] at z2
  exact absurd (Nat.lt_of_lt_of_le h5 (Nat.le_trans h6 z2)) (Nat.lt_irrefl _)
theorem wN{X:Cx}{pins:List (Addr×Obj)}{σ:St}{H:Hp}{s:Shared}{b a:Addr}{xs:List V}(I:Inv X pins σ H s)(hf:eI X pins H b)(h:SqL X.K H a xs):b≠a:=by
 rcases h with (h|⟨o,h⟩)|⟨o,vs,n,h,_⟩
 · intro z; rw [<- z, hf.1] at h; cases h
 · intro z; rw [<- z, hf.1] at h; cases h
 · exact sZ I hf (I.ok.mod.kin _ _ h)
theorem wO{X:Cx}{pins:List (Addr×Obj)}{σ:St}{H:Hp}{s:Shared}{b a:Addr}{xs:List V}(I:Inv X pins σ H s)(hf:eI X pins H b)(h:SqT X.K H a xs):b≠a:=by
 rcases h with (h|⟨o,h⟩)|⟨o,vs,n,h,_⟩
 · intro z; rw [<- z, hf.1] at h; cases h
 · intro z; rw [<- z, hf.1] at h; cases h
 · exact sZ I hf (I.ok.mod.kin _ _ h)
theorem y3{P:Program}{w:World}{K:Frag}(a it:Addr):ColOk P w K (fun H xs=>SqL K H a xs) it (fun i h=>h.IsListIter it a i) where
 obj:=fun i h ⟨o,e,c,d⟩=>⟨o,e,fun v z=>by rw[d] at z;cases z⟩
 keep:=fun i h h' st k=>st.at fun o e=>k o e
 one:=by
  intro X hP hw hK pins s σ H xs ys I h1 h2
  subst hK
  exact I.list_inj h1 h2
 draw:=by
  intro X hP hw hK i pins s σ H xs A I hf st hx hh
  subst hP hw hK
  obtain ⟨its,rv,p,hz⟩:=I.list hx
  have hne:=wN I hf hx
  refine ⟨[it,a],(fun i v=>its.toArray[i]? = some v),(fun i h=>h.IsListIter it a i/\h.IsList a its.toArray),by rw[show xs.length=its.toArray.size by rw[rv.length];simp];exact Draws.list hh it a (Ne.symm hne) its.toArray,⟨st,p.isList⟩,fun j h z=>z.1,fun j v e=>?_,fun b hb nb hm=>?_⟩
  ·have e':its[j]? = some v:=by simpa using e
   have hj:j < xs.length:=by rw[rv.length];exact (List.getElem?_eq_some_iff.mp e').1
   obtain ⟨u,hu,ru⟩:=rv.get (List.getElem?_eq_getElem hj)
   rw[e'] at hu;cases hu
   exact ⟨_,List.getElem?_eq_getElem hj,ru⟩
  ·rcases List.mem_cons.mp hm with z|z
   · exact nb z
   · exact wN I hb hx (by simpa using z)
theorem wP{P:Program}{w:World}{K:Frag}(a it:Addr):ColOk P w K (fun H xs=>SqT K H a xs) it (fun i h=>h.IsTupleIter it a i) where
 obj:=fun i h ⟨o,e,c,d⟩=>⟨o,e,fun v z=>by rw[d] at z;cases z⟩
 keep:=fun i h h' ⟨o,e,r⟩ k=>⟨o,k o e,r⟩
 one:=by
  intro X hP hw hK pins s σ H xs ys I h1 h2
  subst hK
  exact I.tuple_inj h1 h2
 draw:=by
  intro X hP hw hK i pins s σ H xs A I hf st hx hh
  subst hP hw hK
  obtain ⟨its,rv,p,hz⟩:=I.tuple hx
  have hne:=wO I hf hx
  refine ⟨[it,a],(fun i v=>its.toArray[i]? = some v),(fun i h=>h.IsTupleIter it a i/\h.IsTuple a its.toArray),by rw[show xs.length=its.toArray.size by rw[rv.length];simp];exact Zp.sA hh it a (Ne.symm hne) its.toArray,⟨st,p⟩,fun j h z=>z.1,fun j v e=>?_,fun b hb nb hm=>?_⟩
  ·have e':its[j]? = some v:=by simpa using e
   have hj:j < xs.length:=by rw[rv.length];exact (List.getElem?_eq_some_iff.mp e').1
   obtain ⟨u,hu,ru⟩:=rv.get (List.getElem?_eq_getElem hj)
   rw[e'] at hu;cases hu
   exact ⟨_,List.getElem?_eq_getElem hj,ru⟩
  ·rcases List.mem_cons.mp hm with z|z
   · exact nb z
   · exact wO I hb hx (by simpa using z)
noncomputable def mK(z:Str):List V:=z.cps.toList.map fun c=>V.str ⟨#[c]⟩
theorem aB2{P:Program}{w:World}{K:Frag}(z:Str)(t:Tok)(it:Addr):ColOk P w K (fun _ xs=>xs=mK z) it (fun i h=>h.IsStrIter it (strIterType z) z t i) where
 obj:=fun i h ⟨o,e,c,d⟩=>⟨o,e,fun v z=>by rw[d] at z;cases z⟩
 keep:=fun i h h' ⟨o,e,r⟩ k=>⟨o,k o e,r⟩
 one:=fun _ _ _ _ _ _ _ _ _ _ _ h1 h2=>h1.trans h2.symm
 draw:=by
  intro X hP hw hK i pins s σ H xs A I hf st hx hh
  subst hP hw hK hx
  have hD:Draws X.prog X.w A it [it] z.cps.size (fun i v=>∃ c u,z.cps[i]? = some c/\v=.str ⟨#[c]⟩ u) (fun i h=>h.IsStrIter it (strIterType z) z t i):=by
   unfold strIterType
   split
   · exact Draws.strAscii hh it z t
   · exact Draws.strWide hh it z t
  refine ⟨[it],_,_,by rw[show (mK z).length=z.cps.size by unfold mK;simp];exact hD,st,fun j h z=>z,?_,fun b hb nb hm=>nb (by simpa using hm)⟩
  rintro j v ⟨c,u,hc,rfl⟩
  exact ⟨.str ⟨#[c]⟩,by unfold mK;rw[List.getElem?_map,Array.getElem?_toList,hc];rfl,u,rfl⟩
def Itz(C1 C2:Col):It:=
 ⟨fun i H=>∃ xs ys,C1 H xs/\C2 H ys/\i < xs.length/\i < ys.length,fun i H x H'=>∃ p u v,H p=none/\x=.ref p/\H'=upd H p (.tup [u,v])/\(∀ xs,C1 H xs->xs[i]? = some u)/\∀ ys,C2 H ys->ys[i]? = some v,
  fun i H=>∃ xs ys,C1 H xs/\C2 H ys/\(i=xs.length\/(i < xs.length/\i=ys.length))⟩
end L2
namespace L2
open PySem PySem.Spec PyProof.Rows
def k7(K:Frag)(H:Hp)(x:V)(C:Col):Prop:=
 (∃ a xs,x=.ref a/\SqL K H a xs/\C=fun H xs=>SqL K H a xs)\/(∃ a xs,x=.ref a/\SqT K H a xs/\C=fun H xs=>SqT K H a xs)\/∃ z,x=.str z/\C=fun _ xs=>xs=mK z
theorem iQ{X:Cx}{pins:List (Addr×Obj)}{σ:St}{H:Hp}{s:Shared}{x:V}{u:Value}{C:Col}(I:Inv X pins σ H s)(r:aR x u)(h:k7 X.K H x C) :
  ∃ (o:Obj) (tn:Addr->Nat->Heap->Prop),(∀ h':Heap,(∀ b ob,s.heap.get? b=some ob->h'.get? b=some ob)->Zp.iP u o h')/\o.isFreed=false/\(∀ it,ColOk X.prog X.w X.K C it (tn it))/\∀ it h',h'.get? it=some o->tn it 0 h':=by
 rcases h with ⟨a,xs,rfl,hq,rfl⟩|⟨a,xs,rfl,hq,rfl⟩|⟨z,rfl,rfl⟩
 ·cases r
  obtain ⟨its,rv,p,hz⟩:=I.list hq
  refine ⟨{cls:=.type "list_iterator",data:=.fields #[.ref a,.int 0 0]},fun it i h=>h.IsListIter it a i,fun h' kp prog w A E s' Q e q=>?_,rfl,fun it=>y3 a it,fun it h' e=>⟨_,e,rfl,rfl⟩⟩
  subst e
  refine wpAny_pyIter_list (l:=a) (items:=its.toArray) ?_ q
  obtain ⟨o,e,r⟩:=p.isList
  exact ⟨o,kp _ _ e,r⟩
 ·cases r
  obtain ⟨its,rv,p,hz⟩:=I.tuple hq
  refine ⟨{cls:=.type "tuple_iterator",data:=.fields #[.ref a,.int 0 0]},fun it i h=>h.IsTupleIter it a i,fun h' kp prog w A E s' Q e q=>?_,rfl,fun it=>wP a it,fun it h' e=>⟨_,e,rfl,rfl⟩⟩
  subst e
  refine wpAny_pyIter_tuple (t:=a) (items:=its.toArray) ?_ q
  obtain ⟨o,e,r⟩:=p
  exact ⟨o,kp _ _ e,r⟩
 ·obtain ⟨t,rfl⟩:=r
  refine ⟨{cls:=.type (strIterType z),data:=.fields #[.str z t,.int 0 0]},fun it i h=>h.IsStrIter it (strIterType z) z t i,fun h' kp prog w A E s' Q e q=>?_,rfl,fun it=>aB2 z t it,fun it h' e=>⟨_,e,rfl,rfl⟩⟩
  subst e
  exact wpAny_pyIter_strU q
def aEE(K:Frag)(ta:TA):TI:=fun σ H R=>ta σ H fun vs H1=>∃ x y C1 C2,vs=[x,y]/\k7 K H1 x C1/\k7 K H1 y C2/\R (Itz C1 C2) H1
end L2
namespace Fl
open PySem L2 PyProof.Rows
noncomputable def uQ(p:PyData×PyData):PyData:=.tuple [p.1,p.2]
noncomputable def iR(x y:PyData):R (List PyData):=(aY x).bind fun xs=>(aY y).bind fun ys=>.ok ((xs.zip ys).map uQ)
theorem j4{d:PyData}{xs:List PyData}(h:aY d=.ok xs):xs.length<=16777216:=by
 unfold aY at h
 split at h
 ·split at h
  · rename_i hz; cases h; exact hz
  · cases h
 ·split at h
  · rename_i hz; cases h; exact hz
  · cases h
 ·split at h
  · rename_i hz; cases h; rw [List.length_map]; exact hz
  · cases h
 ·cases h
theorem gW{d:PyData}{e:Er}:aY d≠.ex e:=by
 intro h
 unfold aY at h
 split at h
 · split at h <;> cases h
 · split at h <;> cases h
 · split at h <;> cases h
 · cases h
theorem mL{K:Frag}{F:Hp}:∀ (cs:List Nat),DatVs K F (cs.map fun c=>V.str ⟨#[c]⟩) (cs.map fun c=>PyData.str ⟨#[c]⟩)
 | []=>.nil
 | c::t=>.cons (.str _) (mL t)
theorem lS{K:Frag}{F B:Hp}{v:V}{d:PyData}{xs:List PyData}(s:aF F B)(r:aN K F B v d)(h:aY d=.ok xs):∃ C vs,k7 K B v C/\(∀ H1,aF B H1->C H1 vs)/\DatVs K F vs xs:=by
 unfold aY at h
 split at h
 ·split at h
  ·cases h
   obtain ⟨p,vs,rfl,h1,h2⟩:=aN.lst_of s r
   exact ⟨_,vs,.inl ⟨p,vs,rfl,h1,rfl⟩,fun H1 q=>h1.same q,h2⟩
  ·cases h
 ·split at h
  ·cases h
   obtain ⟨p,vs,rfl,h1,_,h2⟩:=aN.tup_of s r
   exact ⟨_,vs,.inr (.inl ⟨p,vs,rfl,h1.same s,rfl⟩),fun H1 q=>(h1.same s).same q,h2⟩
  ·cases h
 ·rename_i z
  split at h
  ·cases h
   obtain rfl:=aN.str_of r
   exact ⟨_,mK z,.inr (.inr ⟨z,rfl,rfl⟩),fun _ _=>rfl,mL _⟩
  ·cases h
 ·cases h
theorem y4{K:Frag}{F B:Hp}{v:V}{d:PyData}{xs:List PyData}(s:aF F B)(r:DatV K F v d)(h:aY d=.ok xs):∃ C vs,k7 K B v C/\(∀ H1,aF F H1->C H1 vs)/\DatVs K F vs xs:=by
 unfold aY at h
 split at h
 ·split at h
  ·cases h
   obtain ⟨p,vs,rfl,h1,h2⟩:=DatV.lst_of r
   exact ⟨_,vs,.inl ⟨p,vs,rfl,h1.same s,rfl⟩,fun H1 q=>h1.same q,h2⟩
  ·cases h
 ·split at h
  ·cases h
   obtain ⟨p,vs,rfl,h1,h2⟩:=DatV.tup_of r
   exact ⟨_,vs,.inr (.inl ⟨p,vs,rfl,h1.same s,rfl⟩),fun H1 q=>h1.same q,h2⟩
  ·cases h
 ·rename_i z
  split at h
  ·cases h
   obtain rfl:=DatV.str_of r
   exact ⟨_,mK z,.inr (.inr ⟨z,rfl,rfl⟩),fun _ _=>rfl,mL _⟩
  ·cases h
 ·cases h
theorem s9{α β:Type}:∀ {xs:List α} {ys:List β} {i:Nat} {x:α} {y:β},xs[i]? = some x->ys[i]? = some y->(xs.zip ys)[i]? = some (x,y)
 | [],_,_,_,_,h,_=>by simp at h
 | _::_,[],_,_,_,_,h=>by simp at h
 | x::xs,y::ys,0,_,_,h1,h2=>by simp at h1 h2;subst h1 h2;rfl
 | x::xs,y::ys,i+1,_,_,h1,h2=>by
  show (xs.zip ys)[i]? = _
  exact s9 (by simpa using h1) (by simpa using h2)
theorem aB3{K:Frag}{F B:Hp}{C1 C2:Col}{us vs:List V}{xs ys:List PyData}(hz:xs.length<=16777216)(h1:∀ H1,aF F H1->aF B H1->C1 H1 us)(h2:∀ H1,aF F H1->aF B H1->C2 H1 vs)(d1:DatVs K F us xs)(d2:DatVs K F vs ys) :
  Yld K (Itz C1 C2) F B ((xs.zip ys).map uQ) where
 len:=by rw[cD,List.length_map,List.length_zip];omega
 go:=fun i F1 H1 a1 a2 a3 hi=>by
  rw[List.length_map,List.length_zip] at hi
  have hs:aF F H1:=fun x o z=>a2 x o (a1 x o z)
  exact ⟨us,vs,h1 H1 hs a3,h2 H1 hs a3,by rw[d1.length];omega,by rw[d2.length];omega⟩
 yld:=fun i F1 H1 v H2 x a1 a2 a3 y e=>by
  obtain ⟨p,u,w,hp,rfl,rfl,y1,y2⟩:=y
  have hs:aF F H1:=fun x o z=>a2 x o (a1 x o z)
  obtain ⟨dx,e1,r1⟩:=d1.get (y1 us (h1 H1 hs a3))
  obtain ⟨dy,e2,r2⟩:=d2.get (y2 vs (h2 H1 hs a3))
  rw[List.getElem?_map,s9 e1 e2] at e
  cases e
  have sm:=aF.upd (o:=.tup [u,w]) (aW a2 hp)
  exact ⟨_,Ext.new a2 hp,.tup (SqT.of aS) (.cons ((r1.same a1).same sm) (.cons ((r2.same a1).same sm) .nil))⟩
 stop:=fun F1 H1 a1 a2 a3=>by
  have hs:aF F H1:=fun x o z=>a2 x o (a1 x o z)
  refine ⟨us,vs,h1 H1 hs a3,h2 H1 hs a3,?_⟩
  rw[List.length_map,List.length_zip,d1.length,d2.length]
  omega
section
variable{X:Cx}{c:Ct}{E:XK}{tg e:Expr}
theorem aB4{f g:Sg->R PyData}(hK:X.K=c.K)(h:PI X tg e (aEE X.K (cS (tV (aQ c) c E f) (cS (tV (aQ c) c E g) eJ)))):PIf X c E tg e (fun ρ=>(f ρ).bind fun x=>(g ρ).bind fun y=>iR x y):=PI.imp h fun σ H Q zz0=>by
 obtain ⟨ρ,F,ab,k⟩:=zz0
 refine ⟨ρ,F,ab,(Rk.bind k).imp fun x _ q v F1 H1 s1 r1=>⟨ρ,F1,ab.ext s1,((Rk.bind q).ext s1).imp fun y _ q w F' H' s r=>?_⟩⟩
 unfold iR at q
 cases e1:aY x with
 | bad=>rw[e1] at q;exact q.elim
 | ex e=>exact absurd e1 gW
 | ok xs=>
  rw[e1] at q
  cases e2:aY y with
  | bad=>rw[R.bind_ok,e2] at q;exact q.elim
  | ex e=>exact absurd e2 gW
  | ok ys=>
   rw[R.bind_ok,e2] at q
   have r1':aN c.K F' H' v x:=aN.ext s r1
   obtain ⟨C1,us,a1,a2,a3⟩:=lS s.fh r1' e1
   obtain ⟨C2,vs,b1,b2,b3⟩:=lS s.fh r e2
   rw[hK]
   exact ⟨v,w,C1,C2,rfl,a1,b1,Rk.ok q _ H' F' H' (s1.trans s) (bR _) (aB3 (j4 e1) (fun H1 _ z=>a2 H1 z) (fun H1 _ z=>b2 H1 z) a3 b3)⟩
end
end Fl
namespace L2
open PySem PySem.Spec PyProof.Rows
end L2
namespace Fl
open PySem L2 PyProof.Rows
section
variable{X:Cx}{c:Ct}{E:XK}{e a b:Expr}{st:Stmt}{pos:Pos}
noncomputable def aFW(i:Nat)(f g:Sg->R PyData):Sg->R Fw:=fun ρ=>match ρ[i]? with
 | some (some (.m kvs))=>(f ρ).bind fun k=>(g ρ).bind fun y=>if bM k (kvs.map (·.1))=true/\kvs.length<=16777216 then .ok (.nx (if cF kvs k=true then ρ else ρ.set i (some (.m (putM kvs k y))))) else .bad
 | _=>.bad
end
end Fl
namespace Fl
open PySem L2 PyProof.Rows
def aHD(i:Nat):Sg->R Fw:=fun ρ=>match ρ[i]? with
 | some (some (.l xs))=>.ok (.nx (ρ.set i (some (.l xs.reverse))))
 | _=>.bad
end Fl
namespace Zp
open PySem
theorem wQ(v:Value)(o:Obj) :
  Meets (Builtin.«enumerate.__new__» ⟨[.type "enumerate",v],[]⟩) (fun _ R s=>iP v o s.heap /\
   R (.ok (.ret (.ref (s.heap.push o).objs.size))) {s with heap:=(s.heap.push o).push {cls:=.type "enumerate",data:=.fields #[.none,.bool false,.ref s.heap.objs.size,rawInt 0,.none,.none]}}):=
 .of_wp fun prog w A R s h=>by
  obtain ⟨hp,g,d,tk,os⟩:=s;obtain ⟨hl,h⟩:=h
  have hsub:=sub_enumerate
  have p1:∀ {A:Around} {E:Value->Shared->Prop} {Q:Value->Shared->Prop},Q (.ref hp.objs.size) ⟨hp.push o,g,d,tk,os⟩->wpAny (model prog w) A (pyIter v) Q E ⟨hp,g,d,tk,os⟩:=fun hq=>hl prog w _ _ ⟨hp,g,d,tk,os⟩ _ rfl hq
  wp_walk
  refine wpAny_stack_any fun st=>wpAny_pure ?_
  split
  ·rename_i c _ _ _ _ _
   cases (c == Value.type "enumerate")<;>(wp_walk using p1;exact ⟨_,rfl,h⟩)
  ·wp_walk using p1
   exact ⟨_,rfl,h⟩
theorem y6{prog:Program}{w:World}{A:Around}{E:Value->Shared->Prop}{s:Shared}{v:Value}{o:Obj}{Q:Value->Shared->Prop}(h1:iP v o s.heap)(f1:o.isFreed=false)
  (h:∀ h',IsEnum h' (s.heap.objs.size+1) s.heap.objs.size 0 .none->h'.get? s.heap.objs.size=some o->h'.objs.size=s.heap.objs.size+2->(∀ b o,s.heap.get? b=some o->h'.get? b=some o)->Q (.ref (s.heap.objs.size+1)) {s with heap:=h'}) :
  wpAny (model prog w) A (call (.type "enumerate") [v]) Q E s:=by
 refine callType_new F.called_enumerate (by decide) (F.typeCall_enumerate_1 _) (F.newCall_enumerate_1 _) (fun obj=>F.args_object_init_2 obj _) F.entry_enumerate_new (wQ v o) ⟨h1,?_⟩
 have hz:(s.heap.push o).objs.size=s.heap.objs.size+1:=Heap.size_push ..
 show _/\_
 rw[hz]
 have he:IsEnum ((s.heap.push o).push {cls:=.type "enumerate",data:=.fields #[.none,.bool false,.ref s.heap.objs.size,rawInt 0,.none,.none]}) (s.heap.objs.size+1) s.heap.objs.size 0 .none:=by
  have q:=Heap.get?_push_size (s.heap.push o) (o:={cls:=.type "enumerate",data:=.fields #[.none,.bool false,.ref s.heap.objs.size,rawInt 0,.none,.none]}) rfl
  rw[hz] at q;exact q
 exact ⟨⟨_,he,rfl⟩,h _ he (Heap.get?_push_of_some _ (Heap.get?_push_size _ f1)) (by rw[Heap.size_push,hz]) fun b o y=>Heap.get?_push_of_some _ (Heap.get?_push_of_some _ y)⟩
end Zp
namespace L2
open PySem PySem.Spec PyProof.Rows
def Itn(C:Col):It:=
 ⟨fun i H=>∃ xs,C H xs/\i < xs.length,fun i H x H'=>∃ p v,H p=none/\x=.ref p/\H'=upd H p (.tup [.int i,v])/\∀ xs,C H xs->xs[i]? = some v,fun i H=>∃ xs,C H xs/\i=xs.length⟩
theorem wR{P:Program}{w:World}{K:Frag}{es:List Expr}{k1}{tpos:Pos}{C:Col}{e it:Addr}{tn:Nat->Heap->Prop}(c:ColOk P w K C it tn)(hei:e≠it) :
  Turn P w K (.Tuple es k1 tpos) (Itn C) [e,it] e (fun i h=>(∃ old,IsEnum h e it i old)/\tn i h) where
 mem:=by simp
 obj:=fun i h st b hb=>by
  obtain ⟨⟨old,s1⟩,s2⟩:=st
  rcases List.mem_cons.mp hb with z|z
  ·subst z
   exact ⟨_,s1,fun v z=>by have z':Data.fields _=Data.cell v:=z;cases z'⟩
  ·obtain rfl:b=it:=by simpa using z
   exact c.obj i h s2
 keep:=fun i h h' st k=>by
  obtain ⟨⟨old,s1⟩,s2⟩:=st
  exact ⟨⟨old,k e (by simp) _ s1⟩,c.keep i h h' s2 fun o q=>k it (by simp) o q⟩
 item:=by
  intro X hP hw hK hc i pins s σ H E I hf st hg
  obtain ⟨⟨old,s1⟩,s2⟩:=st
  obtain ⟨xs,hx,hlt⟩:=hg
  have hhd:X.A.in1.handled=none:=I.ok.hd hc
  obtain ⟨fp,Pv,S,D,a1,a2,a3,a4⟩:=c.draw X hP hw hK i pins s σ H xs X.A.in1 I (hf it (by simp)) s2 hx hhd
  have one:=fun zs (h:C H zs)=>c.one X hP hw hK pins s σ H zs xs I h hx
  subst hP hw hK
  obtain ⟨o2,eo2,_⟩:=c.obj _ _ s2
  refine wpAny_pyNext_enum_itemD D s1 a1 hlt hei (a4 e (hf e (by simp)) hei) fun u h' tk pu so si st hz' kp=>?_
  obtain ⟨x,hux,ru⟩:=a3 i u pu
  refine ⟨_,rfl,wpAny_letOwnedTupleGo_enum so fun h2 se sb=>?_⟩
  have ne1:s.heap.objs.size≠e:=Nat.ne_of_gt (Heap.lt_size s1)
  have hT2:h2.get? s.heap.objs.size=some {cls:=.type "tuple",data:=.seq #[.int i tk,u]}:=(sb.2 _ ne1).trans st
  have fT:H s.heap.objs.size=none:=I.hok.fresh (Nat.le_refl _)
  have kp2:∀ b o,b∉[e,it]->s.heap.get? b=some o->h2.get? b=some o:=fun b o hb q=>by
   simp only[List.mem_cons,List.not_mem_nil,or_false,not_or] at hb
   exact (sb.2 b hb.1).trans (kp b o hb.1 hb.2 q)
  have nfp:∀ b uu,H b=some uu->b∉[e,it]:=fun b uu q z2=>by rw[(hf b z2).1] at q;cases q
  have hok2:HOk X.prog X.w H h2:=fun b uu q=>by
   refine (I.hok b uu q).stay (fun c' v' hc' q'=>kp2 c' v' ?_ q') (fun _ q=>q) (fun _ _ q=>q) fun _ _ q=>q
   rcases hc' with z2|z2
   ·rw[z2];exact nfp b uu q
   ·exact nfp c' _ z2
  have hokT:HOk X.prog X.w (upd H s.heap.objs.size (.tup [.int i,x])) h2:=HOk.track hok2 fT ⟨by show 2<=sizeLine;decide,[.int i tk,u],.cons ⟨_,rfl⟩ (.cons ru .nil),⟨_,hT2,rfl,_,rfl⟩⟩
  have ltT:∀ b uu,H b=some uu->b≠s.heap.objs.size:=fun b uu q=>bK q fT
  have I2:Inv X pins σ (upd H s.heap.objs.size (.tup [.int i,x])) {s with heap:=h2,gens:=s.gens,drawn:=s.drawn,toks:=tk+1}:=by
   refine I.step (ch:=[e,it]) (fun b hb=>?_) (fun b o _ _ hc' q _=>kp2 b o hc' q) (fun b o _ _ hc' q _=>⟨o.slots,kp2 b o hc' q⟩)
    (fun b o _ q n=>by rw[aK (Nat.ne_of_lt (Heap.lt_size q))];exact n) (fun b o hc' q=>⟨o,kp2 b o hc' q⟩) (fun b ys q=>by rw[aK (ltT b _ q)];exact q) (fun b o uu q=>by rw[aK (ltT b _ q)];exact q)
    (fun b ps q=>by rw[aK (ltT b _ q)];exact q) (fun m hm=>?_) hokT I.bare
   ·obtain ⟨e0,e1,e2,e3,e4,e5⟩:=hf b hb
    exact ⟨e3,e1,e4,e5⟩
   ·obtain ⟨o,es',ep,ho,r⟩:=hm
    exact ⟨o,es',ep,kp2 _ o (fun z2=>(hf _ z2).2.1 rfl) ho,r⟩
  refine ⟨.ref s.heap.objs.size,_,I2,rfl,⟨_,x,fT,rfl,rfl,fun zs hzs=>by rw[one zs hzs];exact hux⟩,⟨⟨_,by simpa using se⟩,c.keep _ _ _ (a2 _ _ si) fun o q=>(sb.2 it hei.symm).trans q⟩,fun b hb=>?_⟩
  rw[aK]
  ·exact (hf b hb).1
  ·intro z2
   have hlt:b < s.heap.objs.size:=by
    simp only[List.mem_cons,List.not_mem_nil,or_false] at hb
    rcases hb with rfl|rfl
    · exact Heap.lt_size s1
    · exact Heap.lt_size eo2
   rw[z2] at hlt
   exact absurd hlt (Nat.lt_irrefl _)
 done:=by
  intro X hP hw hK hc i pins s σ H E I hf st hg
  obtain ⟨⟨old,s1⟩,s2⟩:=st
  obtain ⟨xs,hx,rfl⟩:=hg
  have hhd:X.A.in1.handled=none:=I.ok.hd hc
  obtain ⟨fp,Pv,S,D,a1,a2,a3,a4⟩:=c.draw X hP hw hK _ pins s σ H xs X.A.in1 I (hf it (by simp)) s2 hx hhd
  subst hP hw hK
  obtain ⟨g0,g1,g2,g3,g4,g5⟩:=hf it (by simp)
  exact wpAny_pyNext_enum_endD D s1 a1 fun h' eb=>⟨rfl,I.turned (t':=s.toks) (fun b o hb q=>eb b o hb q) g0 g1 g3 g4 g5⟩
 self:=fun _ _ _ _ _ st h=>wpAny_pyIter_enum st.1.choose_spec h
def aAU(K:Frag)(ta:TA):TI:=fun σ H R=>ta σ H fun vs H1=>∃ x C,vs=[x]/\k7 K H1 x C/\R (Itn C) H1
theorem aB5{X:Cx}{es:List Expr}{k1}{tpos:Pos}{a:Expr}{ta:TA}{p pos:Pos}(hg:Gl X "enumerate")(hm:X.mg "enumerate"=none)(ha:PA X [a] ta)(hs:starEach [a] X.env=[(false,eval a X.env)]:=by rfl) :
  PI X (.Tuple es k1 tpos) (.Call (.Name "enumerate" p) [a] [] pos) (aAU X.K ta):=by
 intro pins s σ H R I h
 refine Call_ (gL I hg hm PyProof.Rows.boot_enumerate (PyProof.Rows.callWith_type1 (thn (ha pos pins s σ H _ I h) fun us s1 zz0=>?_) hs rfl))
 obtain ⟨vs,H1,I1,r1,q1⟩:=zz0
 obtain ⟨x,C,rfl,c1,q⟩:=q1
 obtain ⟨u,rfl,ru⟩:=iX r1
 obtain ⟨o1,t1,a1,a2,a3,a4⟩:=iQ I1 ru c1
 refine Zp.y6 (a1 _ fun _ _ e=>e) a2 fun h' se si hz' kp=>?_
 have I2:Inv X pins σ H1 {s1 with heap:=h'}:=I1.kept (t':=s1.toks) kp
 refine wpAny_pyIter_enum se ?_
 refine ⟨s1.heap.objs.size+1,[s1.heap.objs.size+1,s1.heap.objs.size],_,_,H1,rfl,I2,wR (a3 _) (Nat.ne_of_gt (Nat.lt_succ_self _)),⟨⟨_,se⟩,a4 _ _ si⟩,fun b hb=>?_,q⟩
 rcases List.mem_cons.mp hb with z|z
 ·subst z
  exact I1.fpOk (Nat.le_succ _) (I1.hok.fresh (Nat.le_succ _))
 ·obtain rfl:b=s1.heap.objs.size:=by simpa using z
  exact I1.fpOk (Nat.le_refl _) (I1.hok.fresh (Nat.le_refl _))
end L2
namespace Fl
open PySem L2 PyProof.Rows
def y7(p:PyData×Nat):PyData:=.tuple [.int (p.2:Int),p.1]
def j5(x:PyData):R (List PyData):=(aY x).bind fun xs=>.ok (xs.zipIdx.map y7)
theorem aB6{K:Frag}{F B:Hp}{C:Col}{us:List V}{xs:List PyData}(hz:xs.length<=16777216)(h1:∀ H1,aF F H1->aF B H1->C H1 us)(d1:DatVs K F us xs):Yld K (Itn C) F B (xs.zipIdx.map y7) where
 len:=by rw[cD,List.length_map,List.length_zipIdx];exact hz
 go:=fun i F1 H1 a1 a2 a3 hi=>by
  rw[List.length_map,List.length_zipIdx] at hi
  have hs:aF F H1:=fun x o z=>a2 x o (a1 x o z)
  exact ⟨us,h1 H1 hs a3,by rw[d1.length];exact hi⟩
 yld:=fun i F1 H1 v H2 x a1 a2 a3 y e=>by
  obtain ⟨p,u,hp,rfl,rfl,y1⟩:=y
  have hs:aF F H1:=fun x o z=>a2 x o (a1 x o z)
  obtain ⟨dx,e1,r1⟩:=d1.get (y1 us (h1 H1 hs a3))
  rw[List.getElem?_map,List.getElem?_zipIdx,e1] at e
  simp only[Option.map_some,Nat.zero_add] at e
  cases e
  have sm:=aF.upd (o:=.tup [.int i,u]) (aW a2 hp)
  exact ⟨_,Ext.new a2 hp,.tup (SqT.of aS) (.cons (.int _) (.cons ((r1.same a1).same sm) .nil))⟩
 stop:=fun F1 H1 a1 a2 a3=>by
  have hs:aF F H1:=fun x o z=>a2 x o (a1 x o z)
  refine ⟨us,h1 H1 hs a3,?_⟩
  rw[List.length_map,List.length_zipIdx,d1.length]
section
variable{X:Cx}{c:Ct}{E:XK}{tg e:Expr}
theorem aB7{f:Sg->R PyData}(hK:X.K=c.K)(h:PI X tg e (aAU X.K (cS (tV (bO c) c E f) eJ))):PI0 X c E tg e (e1 j5 f):=PI.imp h fun σ H Q zz0=>by
 obtain ⟨ρ,F,ab,k⟩:=zz0
 refine ⟨ρ,F,ab,(Rk.bind k).imp fun x _ q v F' H' s r=>?_⟩
 unfold j5 at q
 cases e1:aY x with
 | bad=>rw[e1] at q;exact q.elim
 | ex e=>exact absurd e1 gW
 | ok xs=>
  rw[e1] at q
  obtain ⟨C1,us,a1,a2,a3⟩:=y4 s.fh r e1
  rw[hK]
  exact ⟨v,C1,rfl,a1,Rk.ok q _ F' H' s (aB6 (j4 e1) (fun H1 z _=>a2 H1 z) a3)⟩
end
end Fl
namespace Fl
open PySem L2 PyProof.Rows
end Fl
namespace Fl
open PySem L2 PyProof.Rows
noncomputable def fzM(i:Nat)(ρ:Sg):Sg:=match ρ[i]? with
 | some (some (.m kvs))=>ρ.set i (some (.f kvs))
 | _=>ρ
def i5(i:Nat)(f:Sg->R Fw):Sg->R Fw:=fun ρ=>f (fzM i ρ)
theorem Ab.frzM{c:Ct}{ρ:Sg}{σ:L2.St}{F H:Hp}(hw:c.w=c.g.w)(b:Ab c ρ σ F H)(i:Nat):∃ F',aF F F'/\Ab c (fzM i ρ) σ F' H:=by
 unfold fzM
 split
 ·rename_i xs hi
  obtain ⟨v,hp,p,es,rfl,⟨ep,h2⟩,h3,h4,h5⟩:=b.slot i _ hi
  exact ⟨_,aF.upd h3,b.publ hi hp rfl h2 h3 h4 rfl (show AF c.g c.K c.mg _ (.f xs) _ from ⟨p,es,rfl,⟨ep,by rw[aS,hw]⟩,h5.same (aF.upd h3)⟩)⟩
 ·exact ⟨F,bR F,b⟩
noncomputable def aHE(neg:Bool)(i:Nat)(f:Sg->R PyData):Sg->R PyData:=fun ρ=>(f ρ).bind fun k=>match ρ[i]? with
 | some (some (.f kvs))=>if bM k (kvs.map (·.1))=true then .ok (.bool (if neg=true then !cF kvs k else cF kvs k)) else .bad
 | _=>.bad
noncomputable def aFX(i:Nat)(f:Sg->R PyData):Sg->R PyData:=fun ρ=>match ρ[i]? with
 | some (some (.f kvs))=>(f ρ).bind fun k=>if bM k (kvs.map (·.1))=true then (match cI kvs k with
  | some v=>.ok v
  | none=>.bad) else .bad
 | _=>.bad
section
variable{X:Cx}{c:Ct}{E:XK}{e:Expr}{st:Stmt}
theorem wS(hw:c.w=c.g.w)(i:Nat){f:Sg->R Fw}(h:PSf X c E st f):PSf X c E st (i5 i f):=PS.imp h fun D σ H zz0=>by
 obtain ⟨ρ,F,ab,k⟩:=zz0
 obtain ⟨F',s,ab'⟩:=ab.frzM hw i
 refine ⟨fzM i ρ,F',ab',?_⟩
 have k':Rk c E F H (f (fzM i ρ)) (eK c F D):=k
 cases q:f (fzM i ρ) with
 | bad=>rw[q] at k';exact k'
 | ok w=>rw[q] at k';exact eK.same s k'
 | ex e=>rw[q] at k';exact k'
end
end Fl
namespace Zp
open PySem
def Raw(h:Heap)(d:Addr)(ar:Array DictEntry)(ep:Nat):Prop:=∃ o,h.get? d=some o/\o.ExactDict/\o.data=.dict ar ep
section
variable{prog:Program}{w:World}{A:Around}{E:Value->Shared->Prop}{s:Shared}{d it:Addr}{ar:Array DictEntry}{ep i:Nat}
theorem rA{Q:Value->Shared->Prop}(hd:(d == sysModules)=false)(hm:Raw s.heap d ar ep)(q:Q (.ref s.heap.objs.size) {s with heap:=s.heap.push {cls:=.type "dict_keyiterator",data:=.fields #[.ref d,.int 0 0,.int ar.size 0,.int ep 0]}}) :
  wpAny (model prog w) A (pyIter (.ref d)) Q E s:=by
 obtain ⟨o,ho,hc,hdat⟩:=hm
 have hT:s.TypeIs (.ref d) "dict":=⟨o,ho,hc.1⟩
 refine wpAny_pyIter_slot hT F.slot_dict_iter (wpAny_call_entry F.slot_dict_iter hT F.entry_dict_iter ?_ (F.args_dict_iter_1 _))
 unfold Builtin.«dict.__iter__»
 refine wpAny_bind ?_
 unfold Builtin.Dict.dictSlotNone
 refine wpAny_bind (wpAny_notOrdered_dict hT (wpAny_pure ?_))
 show wpAny _ _ (Builtin.Dict.showsAll d >>= _) _ _ s
 unfold Builtin.Dict.showsAll
 rw[if_neg (by rw[hd];exact Bool.false_ne_true)]
 refine wpAny_bind (wpAny_pure (wpAny_bind (wpAny_dictEntries ho hdat (wpAny_bind (wpAny_dictEpoch ho hdat ?_)))))
 refine wpAny_bind (wpAny_newObj_type (wpAny_pure ⟨_,rfl,"dict_keyiterator",_,⟨_,Heap.get?_push_size _ rfl,rfl⟩,F.slot_dict_keyiterator_next.lookup,?_⟩))
 simpa[rawInt] using q
theorem rB{Q:Option Value->Shared->Prop}{en:DictEntry}(hit:s.heap.IsKeyIter it d i ar.size ep)(hm:Raw s.heap d ar ep)(hx:ar[i]? = some en)
  (q:∀ h',h'.IsKeyIter it d (i+1) ar.size ep->Heap.SameBut it s.heap h'->Q (some en.key) {s with heap:=h'}):wpAny (model prog w) A (pyNext (.ref it)) Q E s:=by
 obtain ⟨o,ho,hc,hd⟩:=id hit
 obtain ⟨od,hod,hcd,hdd⟩:=hm
 unfold pyNext
 refine wpAny_bind (wpAny_attempt (wpAny_callSpecial?_slot (name:=Str.ofString "__next__") hit.typeIs F.slot_dict_keyiterator_next
  (wpAny_call_entry F.slot_dict_keyiterator_next hit.typeIs F.entry_dict_keyiterator_next ?_ (F.args_dict_keyiterator_next_1 _))))
 refine wpAny_bind (wpAny_pure (wpAny_bind (wpAny_bind ?_)))
 first|refine wpAny_bind (wpAny_typeNameOfWhole_keyiter hit.typeIs (wpAny_pure ?_))|refine wpAny_bind (wpAny_typeNameOf_keyiter hit.typeIs (wpAny_pure ?_))
 refine wpAny_bind (wpAny_fieldsOf ho hd ?_)
 simp only[show Builtin.Dict_items.ownsTuple "dict_keyiterator"=false by decide,Bool.false_eq_true,if_false]
 show wpAny _ _ (if (Value.ref d == Value.none)=true then _ else _) _ _ s
 rw[if_neg (show ¬ ((Value.ref d == Value.none)=true) from Bool.false_ne_true)]
 refine wpAny_bind (wpAny_pure (wpAny_bind (wpAny_dictEntries hod hdd ?_)))
 rw[if_neg (by simp)]
 refine wpAny_bind (wpAny_pure (wpAny_bind (wpAny_dictEpoch hod hdd ?_)))
 rw[if_neg (by simp)]
 refine wpAny_pure ?_
 simp only[show ¬ ((i:Int) < 0) from by omega,if_false,Int.toNat_natCast,hx]
 refine wpAny_bind ?_
 first|refine wpAny_bind (wpAny_typeNameOfWhole_keyiter hit.typeIs (wpAny_pure ?_))|refine wpAny_bind (wpAny_typeNameOf_keyiter hit.typeIs (wpAny_pure ?_))
 refine wpAny_bind (wpAny_isOneOf_keyiter hit.typeIs ?_)
 show wpAny _ _ (setField (.ref it) 1 (rawInt ((i:Int)+1)) >>= _) _ _ s
 refine wpAny_bind (wpAny_setField ho hd (by simp) ?_)
 have hit':(s.heap.update it (Obj.mapFields (·.setIfInBounds 1 (rawInt ((i:Int)+1))))).IsKeyIter it d (i+1) ar.size ep:=
  ⟨_,Heap.get?_update_self _ ho (Obj.isFreed_of_fields (Obj.data_mapFields hd _)),(Obj.cls_mapFields ..).trans hc,by rw[Obj.data_mapFields hd];simp[rawInt]⟩
 refine wpAny_bind (wpAny_holding (wpAny_bind (wpAny_isOneOf_keyiter (s:={s with heap:=s.heap.update it (Obj.mapFields (·.setIfInBounds 1 (rawInt ((i:Int)+1))))}) hit'.typeIs ?_)))
 show wpAny _ _ (pure en.key) _ _ _
 exact wpAny_pure (wpAny_pure ⟨_,rfl,wpAny_pure (q _ hit' (Heap.SameBut.update ..))⟩)
theorem tD{Q:Option Value->Shared->Prop}(hh:A.handled=none)(hit:s.heap.IsKeyIter it d i ar.size ep)(hm:Raw s.heap d ar ep)(hx:ar.size<=i)
  (q:∀ h',Heap.ExtBut it s.heap h'->Q none {s with heap:=h'}):wpAny (model prog w) A (pyNext (.ref it)) Q E s:=by
 obtain ⟨o,ho,hc,hd⟩:=id hit
 obtain ⟨od,hod,hcd,hdd⟩:=hm
 unfold pyNext
 refine wpAny_bind (wpAny_attempt (wpAny_callSpecial?_slot (name:=Str.ofString "__next__") hit.typeIs F.slot_dict_keyiterator_next
  (wpAny_call_entry F.slot_dict_keyiterator_next hit.typeIs F.entry_dict_keyiterator_next ?_ (F.args_dict_keyiterator_next_1 _))))
 refine wpAny_bind (wpAny_pure (wpAny_bind (wpAny_bind ?_)))
 first|refine wpAny_bind (wpAny_typeNameOfWhole_keyiter hit.typeIs (wpAny_pure ?_))|refine wpAny_bind (wpAny_typeNameOf_keyiter hit.typeIs (wpAny_pure ?_))
 refine wpAny_bind (wpAny_fieldsOf ho hd ?_)
 simp only[show Builtin.Dict_items.ownsTuple "dict_keyiterator"=false by decide,Bool.false_eq_true,if_false]
 show wpAny _ _ (if (Value.ref d == Value.none)=true then _ else _) _ _ s
 rw[if_neg (show ¬ ((Value.ref d == Value.none)=true) from Bool.false_ne_true)]
 refine wpAny_bind (wpAny_pure (wpAny_bind (wpAny_dictEntries hod hdd ?_)))
 rw[if_neg (by simp)]
 refine wpAny_bind (wpAny_pure (wpAny_bind (wpAny_dictEpoch hod hdd ?_)))
 rw[if_neg (by simp)]
 refine wpAny_pure ?_
 simp only[show ¬ ((i:Int) < 0) from by omega,if_false,Int.toNat_natCast,Array.getElem?_eq_none hx]
 refine wpAny_bind ?_
 first|refine wpAny_bind (wpAny_typeNameOfWhole_keyiter hit.typeIs (wpAny_pure ?_))|refine wpAny_bind (wpAny_typeNameOf_keyiter hit.typeIs (wpAny_pure ?_))
 show wpAny _ _ (setField (.ref it) 0 .none >>= _) _ _ s
 refine wpAny_bind (wpAny_setField ho hd (by simp) ?_)
 show wpAny _ _ (newExc (.type "StopIteration") [] >>= _) _ _ _
 refine wpAny_bind ?_
 simp only[newExc,newTuple]
 refine wpAny_bind (wpAny_newObj_type ?_ (by size_fits))
 refine wpAny_bind (m:=firstArgMember _ _) (wpAny_of_eq (a:=Value.none) (by first|rfl|(simp only[firstArgMember];rfl)) ?_)
 refine wpAny_newObj_type ?_ (by size_fits)
 simp only[raiseNew]
 refine wpAny_bind (wpAny_handled ?_)
 rw[show A.in1.handled=none from hh]
 refine wpAny_bind (wpAny_pure (wpAny_throw ?_))
 refine wpAny_bind (wpAny_isInstance (T:="StopIteration") (b:=true) ⟨_,Heap.get?_push_size _ rfl,rfl⟩ isSubtype_stop ?_)
 exact wpAny_pure (q _ (((Heap.SameBut.update ..).extBut.push _).push _))
end
end Zp
namespace Fl
open PySem L2 PyProof.Rows
def Itd(w:World)(d:Addr)(es:List Ent)(ep:Nat):It:=
 ⟨fun i H=>H d=some (bL w d es ep)/\i < es.length,fun i H x H'=>H'=H/\∃ e,es[i]? = some e/\x=e.2.1,fun i H=>H d=some (bL w d es ep)/\i=es.length⟩
theorem j6{α β:Type}{f:α->β->Prop}:∀ {xs:List α} {ys:List β} {i:Nat} {x:α},Paired f xs ys->xs[i]? = some x->∃ y,ys[i]? = some y/\f x y
 | _,_,_,_,.nil,h=>by simp at h
 | _,_,0,_,.cons q t,h=>by simp at h;subst h;exact ⟨_,rfl,q⟩
 | _,_,i+1,_,.cons q t,h=>by
  obtain ⟨y,h1,h2⟩:=j6 (i:=i) t (by simpa using h)
  exact ⟨y,by simpa using h1,h2⟩
theorem lT{X:Cx}{pins:List (Addr×Obj)}{σ:L2.St}{H:Hp}{s:Shared}{d:Addr}{es:List Ent}{ep:Nat}(I:Inv X pins σ H s)(h:H d=some (bL X.w d es ep)):(d == sysModules)=false/\∃ ar,Zp.Raw s.heap d ar ep/\Paired (jQ X.w) es ar.toList:=by
 obtain ⟨⟨hd,o,ar,h1,h2,h3,h4⟩,_,_⟩:=(show bW X.prog X.w H s.heap d (bL X.w d es ep) from I.hok d _ h)
 exact ⟨hd,ar,⟨o,h1,h2,h3⟩,h4⟩
theorem y8{P:Program}{w:World}{K:Frag}{tg:Expr}(d it:Addr)(es:List Ent)(ep:Nat):Turn P w K tg (Itd w d es ep) [it] it (fun i h=>h.IsKeyIter it d i es.length ep) where
 mem:=by simp
 obj:=fun i h st b hb=>by
  obtain rfl:b=it:=by simpa using hb
  obtain ⟨o,e,c,dd⟩:=st
  exact ⟨o,e,fun v z=>by rw[dd] at z;cases z⟩
 keep:=fun i h h' st k=>st.at fun o e=>k it (by simp) o e
 item:=by
  intro X hP hw hK hc i pins s σ H E I hf st hg
  subst hP hw hK
  obtain ⟨hO,hi⟩:=hg
  obtain ⟨hd,ar,hr,hp⟩:=lT I hO
  have hl:es.length=ar.size:=by rw[Paired.length hp];simp
  obtain ⟨en,h1,h2,h3,h4⟩:=j6 hp (List.getElem?_eq_getElem hi)
  obtain ⟨f0,f1,f2,f3,f4,f5⟩:=hf it (by simp)
  rw[hl] at st
  refine Zp.rB st hr (en:=en) (by simpa using h1) fun h' st' sb=>?_
  have I1:Inv X pins σ H {s with heap:=h'}:=I.turned (t':=s.toks) (fun b o hb e=>(sb.2 b hb).trans e) f0 f1 f3 f4 f5
  obtain ⟨o,e,c,dd⟩:=id st'
  rw[<-hl] at st'
  exact ⟨_,rfl,mR (s:={s with heap:=h'}) e c dd (by decide) ⟨es[i].2.1,H,I1,h3,⟨rfl,_,List.getElem?_eq_getElem hi,rfl⟩,st',fun b hb=>(hf b hb).1⟩⟩
 done:=by
  intro X hP hw hK hc i pins s σ H E I hf st hg
  subst hP hw hK
  obtain ⟨hO,hi⟩:=hg
  obtain ⟨hd,ar,hr,hp⟩:=lT I hO
  have hl:es.length=ar.size:=by rw[Paired.length hp];simp
  obtain ⟨f0,f1,f2,f3,f4,f5⟩:=hf it (by simp)
  rw[hl] at st
  exact Zp.tD (I.ok.hd hc) st hr (by omega) fun h' eb=>⟨rfl,I.turned (t':=s.toks) (fun b o hb e=>eb b o hb e) f0 f1 f3 f4 f5⟩
 self:=fun _ _ _ _ _ st h=>wpAny_pyIter_keyiter st h
def aHF(X:Cx)(tl:TE):TI:=fun σ H R=>tl σ H fun x H1=>∃ d es ep,x=.ref d/\H1 d=some (bL X.w d es ep)/\R (Itd X.w d es ep) H1
section
variable{X:Cx}{c:Ct}{E:XK}{tg e:Expr}
theorem aB8{l:Expr}{tl:TE}(hl:PE X l tl):PI X tg l (aHF X tl):=by
 intro pins s σ H R I h
 refine thn (hl pins s σ H _ I h) fun v s1 zz0=>?_
 obtain ⟨x,H1,I1,r1,q1⟩:=zz0
 obtain ⟨d,es,ep,rfl,hO,q⟩:=q1
 cases r1
 obtain ⟨hd,ar,hr,hp⟩:=lT I1 hO
 have hsz:ar.size=es.length:=by rw[Paired.length hp];simp
 refine Zp.rA hd hr ?_
 rw[hsz]
 refine ⟨s1.heap.objs.size,[s1.heap.objs.size],_,_,H1,rfl,I1.kept (t':=s1.toks) fun b o e=>Heap.get?_push_of_some _ e,y8 d _ es ep,⟨_,Heap.get?_push_size _ rfl,rfl,rfl⟩,fun b hb=>?_,q⟩
 obtain rfl:b=s1.heap.objs.size:=by simpa using hb
 exact I1.fpOk (Nat.le_refl _) (I1.hok.fresh (Nat.le_refl _))
theorem uR{K:Frag}{F:Hp}{es:List Ent}{kvs:List (PyData×PyData)}(m:MapRel K F es kvs){i:Nat}{en:Ent}{x:PyData}(h:es[i]? = some en)(hx:(kvs.map (·.1))[i]? = some x):DatV K F en.2.1 x:=by
 obtain ⟨d,h1,h2⟩:=m.k2.get (i:=i) (x:=en.2.1) (by rw[List.getElem?_map,h];rfl)
 rw[hx] at h1
 cases h1
 exact h2
theorem aB9{K:Frag}{F B:Hp}{w:World}{d:Addr}{es:List Ent}{ep:Nat}{kvs:List (PyData×PyData)}(hz:kvs.length<=16777216)(hO:F d=some (bL w d es ep))(m:MapRel K F es kvs):Yld K (Itd w d es ep) F B (kvs.map (·.1)):=by
 have hl:es.length=kvs.length:=by simpa using congrArg List.length m.k1
 exact {
  len:=by rw[cD,List.length_map];exact hz
  go:=fun i F1 H1 h1 h2 h3 hi=>⟨h2 _ _ (h1 _ _ hO),by rw[List.length_map] at hi;omega⟩
  yld:=fun i F1 H1 v H2 x h1 h2 h3 y e=>by
   obtain ⟨rfl,en,he,rfl⟩:=y
   exact ⟨F1,Ext.refl h2,(uR m he e).same h1⟩
  stop:=fun F1 H1 h1 h2 h3=>⟨h2 _ _ (h1 _ _ hO),by rw[List.length_map];exact hl.symm⟩}
noncomputable def nP(i:Nat):Sg->R (List PyData):=fun ρ=>match ρ[i]? with
 | some (some (.f kvs))=>if kvs.length<=16777216 then .ok (kvs.map (·.1)) else .bad
 | _=>.bad
theorem aCA{i:Nat}(hW:X.w=c.g.w)(h:PE X e (fG i)):PI0 X c E tg e (nP i):=PI.imp (aB8 h) fun σ H Q ⟨ρ,F,ab,k⟩=>by
 unfold nP at k
 split at k
 ·rename_i kvs hi
  split at k
  ·rename_i hz
   obtain ⟨v,hp,p,es,rfl,⟨ep,h2⟩,h5⟩:=ab.slot i _ hi
   refine ⟨_,hp,p,es,ep,rfl,by rw[hW];exact ab.fh _ _ h2,?_⟩
   rw[hW]
   exact Rk.ok k _ F H (Ext.refl ab.fh) (aB9 hz h2 h5)
  ·exact k.elim
 ·exact k.elim
def aFY(i:Nat):Sg->R PyData:=fun ρ=>match ρ[i]? with
 | some (some (.m kvs))=>if kvs.length<=16777216 then .ok (.int (kvs.length:Int)) else .bad
 | some (some (.f kvs))=>if kvs.length<=16777216 then .ok (.int (kvs.length:Int)) else .bad
 | _=>.bad
end
end Fl
namespace Zp
open PySem
abbrev dI(h:Heap)(z TI TO:Addr)(f0 f1:Value):Prop:=h.get? z=some {cls:=.type "zip",dict:=none,data:=.fields #[f0,f1,.bool false,.ref TI,.ref TO],slots:=#[]}
theorem rC{M:Model}{A:Around}{E:Value->Shared->Prop}{s:Shared}{a:Addr}{Q:Option Obj->Shared->Prop}(h:Q (s.heap.get? a) s):wpAny M A (loadIfAlive a) Q E s:=fun Γ p _=>by
 unfold loadIfAlive
 rw[Sem.wp_loadIfAlive]
 exact h
section
variable{prog:Program}{w:World}{A:Around}{E:Value->Shared->Prop}{s:Shared}{z TI TO T i1 i2:Addr}{f1 f2:List Addr}{n1 n2 i:Nat}{P1 P2:Nat->Value->Prop}{S1 S2:Nat->Heap->Prop}{oT:Obj}{bb:Bool}
theorem tE{Q:Bool->Shared->Prop}(hz:dI s.heap z TI TO (rawInt T) (.bool bb))(hT:s.heap.get? T=some oT)
  (h:∀ h',dI h' z TI TO (rawInt T) (.bool true)->Heap.SameBut z s.heap h'->Q false {s with heap:=h'}):wpAny (model prog w) A (Builtin.SmallTypes.ownedTupleIsFree (.ref z)) Q E s:=by
 unfold Builtin.SmallTypes.ownedTupleIsFree
 refine wpAny_bind (wpAny_field hz rfl (x:=rawInt T) rfl ?_)
 show wpAny _ _ (loadIfAlive ((T:Int)).toNat >>= _) _ _ s
 refine wpAny_bind (rC ?_)
 rw[show ((T:Int)).toNat=T by omega,hT]
 show wpAny _ _ (field (.ref z) 1 >>= _) _ _ s
 refine wpAny_bind (wpAny_field hz rfl (x:=.bool bb) rfl ?_)
 cases bb with
 | true=>exact wpAny_pure (h _ hz ⟨rfl,fun _ _=>rfl⟩)
 | false=>
  show wpAny _ _ (setField (.ref z) 1 (.bool true) >>= _) _ _ s
  refine wpAny_bind (wpAny_setField_rec hz (by simp) fun h1 hz1 hs1=>?_)
  exact wpAny_pure (h h1 hz1 hs1)
theorem aCB{Q:Value->Shared->Prop}(hz:dI s.heap z TI TO (rawInt T) (.bool bb))(hT:s.heap.get? T=some oT)(D:Apart z TI TO i1 i2 f1 f2)
  (D1:Draws prog w A i1 f1 n1 P1 S1) (D2:Draws prog w A i2 f2 n2 P2 S2) (hTI:IsPair s.heap TI (.ref i1) (.ref i2)) (h1:S1 i s.heap) (h2:S2 i s.heap) (l1:i < n1) (l2:i < n2)
  (hQ:∀ x y h' tk,P1 i x->P2 i y->dI h' z TI TO (rawInt T) (.bool true)->S1 (i+1) h'->S2 (i+1) h'->IsPair h' s.heap.objs.size x y->h'.objs.size=s.heap.objs.size+1->
   (∀ c o,c≠z->c≠i1->c≠i2->s.heap.get? c=some o->h'.get? c=some o)->Q (.ref s.heap.objs.size) {s with heap:=h',toks:=tk}) :
  wpAny (model prog w) A (Builtin.«zip.__next__» ⟨[.ref z],[]⟩) (fun fin s'=>∃ v,fin=.done (.ret v)/\Q v s') E s:=by
 have fr:∀ {f:List Addr} {c:Addr} {g g':Heap},Heap.SameBut c g g'->c∉f->∀ b∈f,∀ o,g.get? b=some o->g'.get? b=some o:=fun hs hc b hb o e=>hs.extBut _ _ (fun z=>hc (z▸hb)) e
 show wpAny _ _ (field (.ref z) 2 >>= _) _ _ _
 refine wpAny_bind (wpAny_field hz rfl (x:=.bool false) rfl ?_)
 show wpAny _ _ (field (.ref z) 3 >>= _) _ _ _
 refine wpAny_bind (wpAny_field hz rfl (x:=.ref TI) rfl (wpAny_bind (wpAny_seqItems hTI rfl ?_)))
 show wpAny _ _ (Builtin.SmallTypes.ownedTupleIsFree (.ref z) >>= _) _ _ _
 refine wpAny_bind (tE hz hT fun h₁ hz₁ hs₁=>?_)
 simp only[Bool.false_eq_true,if_false]
 show wpAny _ _ ((forIn #[Value.ref i1,Value.ref i2] _ _) >>= _) _ _ _
 refine wpAny_bind ?_
 rw[<-Array.forIn_toList]
 simp only[List.forIn_cons,List.forIn_nil]
 refine wpAny_bind (wpAny_bind (wpAny_holding ?_))
 show wpAny _ _ (Builtin.SmallTypes.nextOf (.ref i1) >>= _) _ _ _
 refine wpAny_bind (D1.item i {s with heap:=h₁} _ _ l1 (D1.frame _ _ _ h1 (fr hs₁ D.z1)) fun x h₂ tk1 px h1₂ hs₂=>wpAny_pure (wpAny_pure ?_))
 have hs₂:Heap.SameBut i1 h₁ h₂:=hs₂
 refine wpAny_bind (wpAny_bind (wpAny_holding ?_))
 show wpAny _ _ (Builtin.SmallTypes.nextOf (.ref i2) >>= _) _ _ _
 refine wpAny_bind (D2.item i {s with heap:=h₂,toks:=tk1} _ _ l2 (D2.frame _ _ _ (D2.frame _ _ _ h2 (fr hs₁ D.z2)) (fr hs₂ D.i1f2)) fun y h₃ tk2 py h2₃ hs₃=>wpAny_pure (wpAny_pure (wpAny_pure ?_)))
 have hs₃:Heap.SameBut i2 h₂ h₃:=hs₃
 have hsz:h₃.objs.size=s.heap.objs.size:=by rw[hs₃.1,hs₂.1,hs₁.1]
 have hz₃:dI h₃ z TI TO (rawInt T) (.bool true):=hs₃.extBut _ _ D.i2z.symm (hs₂.extBut _ _ D.i1z.symm hz₁)
 refine wpAny_bind (wpAny_newTuple (hsz:=by show 2<=sizeLine;decide) (wpAny_pure ⟨_,rfl,?_⟩))
 show Q (.ref h₃.objs.size) _
 rw[hsz]
 have up:∀ c o,h₃.get? c=some o->(h₃.push {cls:=.type "tuple",data:=.seq #[x,y]}).get? c=some o:=fun c o e=>Heap.get?_push_of_some _ e
 refine hQ x y _ tk2 px py (up _ _ hz₃) (D1.frame _ _ _ (D1.frame _ _ _ h1₂ (fr hs₃ D.i2f1)) fun b hb o e=>up b o e) (D2.frame _ _ _ h2₃ fun b hb o e=>up b o e) ?_ (by rw[Heap.size_push,hsz]) fun c o c1 c2 c3 e=>up c o (hs₃.extBut _ _ c3 (hs₂.extBut _ _ c2 (hs₁.extBut _ _ c1 e)))
 rw[<-hsz]
 exact Heap.get?_push_size _ rfl
theorem aEF{Q:Fin->Shared->Prop}(hz:dI s.heap z TI TO (rawInt T) (.bool bb))(hT:s.heap.get? T=some oT)(D:Apart z TI TO i1 i2 f1 f2)
  (D1:Draws prog w A i1 f1 n1 P1 S1) (D2:Draws prog w A i2 f2 n2 P2 S2) (hTI:IsPair s.heap TI (.ref i1) (.ref i2)) (h1:S1 i s.heap) (h2:S2 i s.heap) (hend:i=n1\/(i < n1/\i=n2))
  (hE:∀ h' tk e,(∀ c o,c≠z->c≠i1->c≠i2->s.heap.get? c=some o->h'.get? c=some o)->(∃ o,h'.get? e=some o/\o.cls=.type "StopIteration")->E (.ref e) {s with heap:=h',toks:=tk}) :
  wpAny (model prog w) A (Builtin.«zip.__next__» ⟨[.ref z],[]⟩) Q E s:=by
 have fr:∀ {f:List Addr} {c:Addr} {g g':Heap},Heap.SameBut c g g'->c∉f->∀ b∈f,∀ o,g.get? b=some o->g'.get? b=some o:=fun hs hc b hb o e=>hs.extBut _ _ (fun z=>hc (z▸hb)) e
 show wpAny _ _ (field (.ref z) 2 >>= _) _ _ _
 refine wpAny_bind (wpAny_field hz rfl (x:=.bool false) rfl ?_)
 show wpAny _ _ (field (.ref z) 3 >>= _) _ _ _
 refine wpAny_bind (wpAny_field hz rfl (x:=.ref TI) rfl (wpAny_bind (wpAny_seqItems hTI rfl ?_)))
 show wpAny _ _ (Builtin.SmallTypes.ownedTupleIsFree (.ref z) >>= _) _ _ _
 refine wpAny_bind (tE hz hT fun h₁ hz₁ hs₁=>?_)
 simp only[Bool.false_eq_true,if_false]
 show wpAny _ _ ((forIn #[Value.ref i1,Value.ref i2] _ _) >>= _) _ _ _
 refine wpAny_bind ?_
 rw[<-Array.forIn_toList]
 simp only[List.forIn_cons,List.forIn_nil]
 refine wpAny_bind (wpAny_bind (wpAny_holding ?_))
 show wpAny _ _ (Builtin.SmallTypes.nextOf (.ref i1) >>= _) _ _ _
 rcases hend with rfl|⟨l1,rfl⟩
 ·exact wpAny_bind (D1.done {s with heap:=h₁} _ _ (D1.frame _ _ _ h1 (fr hs₁ D.z1)) fun h₂ e hs₂ he=>hE h₂ s.toks e (fun c o c1 c2 _ x=>hs₂ _ _ c2 (hs₁.extBut _ _ c1 x)) he)
 ·refine wpAny_bind (D1.item i {s with heap:=h₁} _ _ l1 (D1.frame _ _ _ h1 (fr hs₁ D.z1)) fun x h₂ tk1 px h1₂ hs₂=>wpAny_pure (wpAny_pure ?_))
  have hs₂:Heap.SameBut i1 h₁ h₂:=hs₂
  refine wpAny_bind (wpAny_bind (wpAny_holding ?_))
  show wpAny _ _ (Builtin.SmallTypes.nextOf (.ref i2) >>= _) _ _ _
  exact wpAny_bind (D2.done {s with heap:=h₂,toks:=tk1} _ _ (D2.frame _ _ _ (D2.frame _ _ _ h2 (fr hs₁ D.z2)) (fr hs₂ D.i1f2)) fun h₃ e hs₃ he=>hE h₃ tk1 e (fun c o c1 c2 c3 x=>hs₃ _ _ c3 (hs₂.extBut _ _ c2 (hs₁.extBut _ _ c1 x))) he)
end
end Zp
namespace Zp
open PySem
section
variable{prog:Program}{w:World}{A:Around}{E:Value->Shared->Prop}{s:Shared}{z TI TO T i1 i2:Addr}{f1 f2:List Addr}{n1 n2 i:Nat}{P1 P2:Nat->Value->Prop}{S1 S2:Nat->Heap->Prop}{oT:Obj}{bb:Bool}
theorem tF{Q:Option Value->Shared->Prop}(hz:dI s.heap z TI TO (rawInt T) (.bool bb))(hT:s.heap.get? T=some oT)(D:Apart z TI TO i1 i2 f1 f2)
  (D1:Draws prog w A.in1 i1 f1 n1 P1 S1) (D2:Draws prog w A.in1 i2 f2 n2 P2 S2) (hTI:IsPair s.heap TI (.ref i1) (.ref i2)) (h1:S1 i s.heap) (h2:S2 i s.heap) (l1:i < n1) (l2:i < n2)
  (hQ:∀ x y h' tk,P1 i x->P2 i y->dI h' z TI TO (rawInt T) (.bool true)->S1 (i+1) h'->S2 (i+1) h'->IsPair h' s.heap.objs.size x y->h'.objs.size=s.heap.objs.size+1->
   (∀ c o,c≠z->c≠i1->c≠i2->s.heap.get? c=some o->h'.get? c=some o)->Q (some (.ref s.heap.objs.size)) {s with heap:=h',toks:=tk}):wpAny (model prog w) A (pyNext (.ref z)) Q E s:=by
 have hty:s.TypeIs (.ref z) "zip":=⟨_,hz,rfl⟩
 unfold pyNext
 exact wpAny_bind (wpAny_attempt (wpAny_callSpecial?_slot (name:=Str.ofString "__next__") hty F.slot_zip_next
  (wpAny_call_entry F.slot_zip_next hty F.entry_zip_next
   (aCB hz hT D D1 D2 hTI h1 h2 l1 l2 fun x y h' tk p1 p2 a1 a3 a4 a5 a6 a7=>wpAny_pure (hQ x y h' tk p1 p2 a1 a3 a4 a5 a6 a7)) (F.args_zip_next_1 _))))
theorem wT{Q:Option Value->Shared->Prop}(hz:dI s.heap z TI TO (rawInt T) (.bool bb))(hT:s.heap.get? T=some oT)(D:Apart z TI TO i1 i2 f1 f2)
  (D1:Draws prog w A.in1 i1 f1 n1 P1 S1) (D2:Draws prog w A.in1 i2 f2 n2 P2 S2) (hTI:IsPair s.heap TI (.ref i1) (.ref i2)) (h1:S1 i s.heap) (h2:S2 i s.heap) (hend:i=n1\/(i < n1/\i=n2))
  (hQ:∀ h' tk,(∀ c o,c≠z->c≠i1->c≠i2->s.heap.get? c=some o->h'.get? c=some o)->Q none {s with heap:=h',toks:=tk}):wpAny (model prog w) A (pyNext (.ref z)) Q E s:=by
 have hty:s.TypeIs (.ref z) "zip":=⟨_,hz,rfl⟩
 unfold pyNext
 refine wpAny_bind (wpAny_attempt (wpAny_callSpecial?_slot (name:=Str.ofString "__next__") hty F.slot_zip_next
  (wpAny_call_entry F.slot_zip_next hty F.entry_zip_next (aEF hz hT D D1 D2 hTI h1 h2 hend fun h' tk e hk he=>?_) (F.args_zip_next_1 _))))
 obtain ⟨o,ho,hc⟩:=he
 refine wpAny_bind (wpAny_isInstance (T:="StopIteration") (b:=true) ⟨o,ho,hc⟩ isSubtype_stop ?_)
 exact wpAny_pure (hQ _ _ hk)
end
abbrev k8(h:Heap)(S:Addr)(acc:Array Value)(c:Nat):Prop:=h.get? S=some {cls:=.type "list",dict:=none,data:=.seq acc c,slots:=#[]}
theorem rD{prog:Program}{w:World}{A:Around}{R:Result->Shared->Prop}{I S:Addr}{n:Nat}{res:Value}(J Jf:Array Value->Heap->Prop)(hn:n<=sizeLine)
  (size:∀ acc h,J acc h->acc.size<=n)
  (frame:∀ acc h h',J acc h->h'.objs.size=h.objs.size->(∀ b o,b≠S->h.get? b=some o->h'.get? b=some o)->J acc h')
  (item:∀ acc (s:Shared) (c:Nat) (Q:Option Value->Shared->Prop) (E:Value->Shared->Prop),acc.size < n->J acc s.heap->k8 s.heap S acc c->(∀ v h' tk,J (acc.push v) h'->k8 h' S acc c->Q (some v) {s with heap:=h',toks:=tk})->wpAny (model prog w) A.in1 (pyNext (.ref I)) Q E s)
  (done:∀ acc (s:Shared) (c:Nat) (Q:Option Value->Shared->Prop) (E:Value->Shared->Prop),acc.size=n->J acc s.heap->k8 s.heap S acc c->(∀ h' tk,Jf acc h'->k8 h' S acc c->Q none {s with heap:=h',toks:=tk})->wpAny (model prog w) A.in1 (pyNext (.ref I)) Q E s) :
  ∀ (k:Nat) (s:Shared) (acc:Array Value) (c:Nat),n - acc.size=k->J acc s.heap->k8 s.heap S acc c->(∀ h' tk acc' c',Jf acc' h'->acc'.size=n->k8 h' S acc' c'->R (.ok (.ret res)) {s with heap:=h',toks:=tk})->
  codeAny (model prog w) A (.builtin "list.extend.loop" ⟨[.ref S,.ref I,res],[]⟩) R s:=by
 intro k
 induction k with
 | zero=>
  intro s acc c hk hJ hS hR
  have:=size acc _ hJ
  refine codeAny_builtin F.entry_extend_loop ?_
  rw[Around.under_plainId F.plain_extend_loop _]
  show wpAny _ A.in1 (pyNext (.ref I) >>= _) _ _ s
  exact wpAny_bind (done acc s c _ _ (by omega) hJ hS fun h' tk hJ' hS'=>wpAny_pure (hR h' tk acc c hJ' (by omega) hS'))
 | succ k ih=>
  intro s acc c hk hJ hS hR
  refine codeAny_builtin F.entry_extend_loop ?_
  rw[Around.under_plainId F.plain_extend_loop _]
  show wpAny _ A.in1 (pyNext (.ref I) >>= _) _ _ s
  refine wpAny_bind (item acc s c _ _ (by omega) hJ hS fun v h' tk hJ' hS'=>?_)
  show wpAny _ A.in1 (updateSeq S (·.push v) >>= _) _ _ _
  refine wpAny_bind (wpAny_updateSeq hS' rfl (wpAny_pure ⟨plainId_quiet F.plain_extend_loop _,ih _ (acc.push v) _ (by rw[Array.size_push];omega) (frame _ _ _ hJ' (Heap.size_update ..) fun b o hb e=>?_) (Heap.get?_update_self _ hS' rfl) fun h2 tk2 acc' c' a1 a2 a3=>hR h2 tk2 acc' c' a1 a2 a3⟩) (by omega) (by show (acc.push v).size<=sizeLine+1;rw[Array.size_push];omega))
  exact (Heap.get?_update_other _ _ (fun h:S=b=>hb h.symm)).trans e
theorem uS:typeLookup (.type "zip") "__len__"=pure none:=by rw[typeLookup_type,builtinLookup_eq_fast];kernel_rfl
theorem sB:typeLookup (.type "zip") "__length_hint__"=pure none:=by rw[typeLookup_type,builtinLookup_eq_fast];kernel_rfl
end Zp
namespace Zp
open PySem
def Je(P1 P2:Nat->Value->Prop)(s0:Heap)(z TO i1 i2 S:Addr)(acc:Array Value)(h:Heap):Prop:=(∀ (j k p q:Nat),j < k->acc[j]? = some (.ref p)->acc[k]? = some (.ref q)->p < q)/\(∀ (j:Nat) v,acc[j]? = some v->∃ p x y,v=.ref p/\S < p/\IsPair h p x y/\P1 j x/\P2 j y)/\∀ c o,c≠z->c≠TO->c≠i1->c≠i2->c≠S->s0.get? c=some o->h.get? c=some o
structure Jz(P1 P2:Nat->Value->Prop)(S1 S2:Nat->Heap->Prop)(s0:Heap)(z TI TO i1 i2 S:Addr)(n:Nat)(acc:Array Value)(h:Heap):Prop where
 size:acc.size<=n
 inc:∀ (j k p q:Nat),j < k->acc[j]? = some (.ref p)->acc[k]? = some (.ref q)->p < q
 top:∀ (j p:Nat),acc[j]? = some (.ref p)->p < h.objs.size
 told:∀ (j:Nat) v,acc[j]? = some v->∃ p x y,v=.ref p/\S < p/\IsPair h p x y/\P1 j x/\P2 j y
 s1:S1 acc.size h
 s2:S2 acc.size h
 ti:IsPair h TI (.ref i1) (.ref i2)
 keep:∀ c o,c≠z->c≠TO->c≠i1->c≠i2->c≠S->s0.get? c=some o->h.get? c=some o
 big:S < h.objs.size
 st:(acc.size=0/\IsZip h z TI TO .none/\∃ a b,IsPair h TO a b)\/(0 < acc.size/\∃ (T:Addr) (bb:Bool) (o:Obj),dI h z TI TO (rawInt T) (.bool bb)/\h.get? T=some o/\S < T)
section
variable{prog:Program}{w:World}{A:Around}{E:Value->Shared->Prop}{s:Shared}{z TI TO i1 i2:Addr}{f1 f2:List Addr}{n1 n2:Nat}{P1 P2:Nat->Value->Prop}{S1 S2:Nat->Heap->Prop}
theorem y9{a b:Value}{Q:Value->Shared->Prop}(hh:A.handled=none)(D:Apart z TI TO i1 i2 f1 f2)(D1:Draws prog w A.in1.in1.in1 i1 f1 n1 P1 S1)(D2:Draws prog w A.in1.in1.in1 i2 f2 n2 P2 S2)
  (hz:IsZip s.heap z TI TO .none) (hTI:IsPair s.heap TI (.ref i1) (.ref i2)) (hTO:IsPair s.heap TO a b) (h1:S1 0 s.heap) (h2:S2 0 s.heap) (nf1:s.heap.objs.size∉f1) (nf2:s.heap.objs.size∉f2) (hi1:i1 < s.heap.objs.size) (hi2:i2 < s.heap.objs.size) (hn:n1<=sizeLine)
  (hQ:∀ h' tk acc c,(∀ c o,c≠z->c≠TO->c≠i1->c≠i2->s.heap.get? c=some o->h'.get? c=some o)->k8 h' s.heap.objs.size acc c->acc.size=min n1 n2->(∀ (j k p q:Nat),j < k->acc[j]? = some (.ref p)->acc[k]? = some (.ref q)->p < q)->
   (∀ (j:Nat) v,acc[j]? = some v->∃ p x y,v=.ref p/\s.heap.objs.size < p/\IsPair h' p x y/\P1 j x/\P2 j y)->Q (.ref s.heap.objs.size) {s with heap:=h',toks:=tk}) :
  wpAny (model prog w) A (call (.type "list") [.ref z]) Q E s:=by
 have hzl:=Heap.lt_size hz
 have hTIl:=Heap.lt_size hTI
 have hTOl:=Heap.lt_size hTO
 refine callType_codes (Q₁:=fun obj s₁=>obj=.ref s.heap.objs.size/\s₁={s with heap:=s.heap.push {cls:=.type "list",data:=.seq #[]}}) F.called_list (F.typeCall_list_1 _) F.entry_list_init
  (code_list_new _ ⟨rfl,rfl⟩) fun obj s₁ hs₁=>?_
 obtain ⟨rfl,rfl⟩:=hs₁
 have hS:(s.heap.push {cls:=.type "list",data:=.seq #[]}).get? s.heap.objs.size=some {cls:=.type "list",data:=.seq #[]}:=Heap.get?_push_size _ rfl
 refine ⟨⟨_,hS,rfl⟩,F.args_list_init_2 _ _,?_⟩
 generalize hSS:s.heap.objs.size=S at *
 show wpAny _ _ (do let old <-Builtin.List.listItems (.ref S);Builtin.List.listUpdate (.ref S) (fun _=>#[]);letGo old.toList.reverse;Builtin.List.listExtendWith (.ref S) (.ref z) .none) _ _ _
 refine wpAny_bind ?_
 unfold Builtin.List.listItems
 refine wpAny_bind (wpAny_seqItems hS rfl (wpAny_pure ?_))
 show wpAny _ _ (updateSeq S (fun _=>#[]) >>= fun _=>letGo (#[]:Array Value).toList.reverse >>= fun _=>Builtin.List.listExtendWith (.ref S) (.ref z) .none) _ _ _
 refine wpAny_bind (wpAny_updateSeq hS rfl (wpAny_bind (wpAny_letGo ?_)))
 have g1:=Heap.get?_update_self (Obj.mapSeq (fun _=>(#[]:Array Value))) hS rfl
 have g2:∀ c o,c≠S->s.heap.get? c=some o->((s.heap.push {cls:=.type "list",data:=.seq #[]}).update S (Obj.mapSeq (fun _=>(#[]:Array Value)))).get? c=some o:=
  fun c o hc e=>(Heap.get?_update_other _ _ (Ne.symm hc)).trans (Heap.get?_push_of_some _ e)
 have g3:((s.heap.push {cls:=.type "list",data:=.seq #[]}).update S (Obj.mapSeq (fun _=>(#[]:Array Value)))).objs.size=S+1:=by rw[Heap.size_update,Heap.size_push,hSS]
 generalize (s.heap.push {cls:=.type "list",data:=.seq #[]}).update S (Obj.mapSeq (fun _=>(#[]:Array Value)))=hp at *
 have nz:z≠S:=Nat.ne_of_lt hzl
 have nTI:TI≠S:=Nat.ne_of_lt hTIl
 have nTO:TO≠S:=Nat.ne_of_lt hTOl
 have ni1:i1≠S:=Nat.ne_of_lt hi1
 have ni2:i2≠S:=Nat.ne_of_lt hi2
 have hz':IsZip hp z TI TO .none:=g2 _ _ nz hz
 have hty:(({s with heap:=hp}:Shared)).TypeIs (.ref z) "zip":=⟨_,hz',rfl⟩
 unfold Builtin.List.listExtendWith
 refine wpAny_bind (wpAny_typeOf hty ?_)
 have e1:Builtin.List.listSameRef (.ref S) (.ref z)=false:=by simp[Builtin.List.listSameRef,Ne.symm nz]
 simp only[e1,show (Value.type "zip" == Value.type "list")=false by decide,show (Value.type "zip" == Value.type "tuple")=false by decide,Bool.or_false,Bool.false_eq_true,if_false]
 refine wpAny_bind (wpAny_pyIter_zip (s:={s with heap:=hp}) hz' (wpAny_bind (wpAny_holding ?_)))
 unfold Builtin.List.listLengthHint
 refine wpAny_bind (wpAny_specialOf hty uS ?_)
 show wpAny _ _ (specialOf (Value.ref z) (Str.ofString "__length_hint__") >>= _) _ _ _
 refine wpAny_bind (wpAny_specialOf hty sB (wpAny_pure ?_))
 rw[if_pos (by rfl)]
 refine wpAny_bind (wpAny_rule (wpAny_bind ?_))
 show wpAny _ _ (updateSeq S (·.push .none) >>= fun _=>updateSeq S (·.pop)) _ _ _
 refine wpAny_bind (wpAny_updateSeq g1 rfl ?_)
 have g4:=Heap.get?_update_self (Obj.mapSeq (·.push Value.none)) g1 rfl
 refine wpAny_updateSeq g4 rfl ?_
 have g5:=Heap.get?_update_self (Obj.mapSeq (·.pop)) g4 rfl
 have g6:∀ c o,c≠S->s.heap.get? c=some o->((hp.update S (Obj.mapSeq (·.push Value.none))).update S (Obj.mapSeq (·.pop))).get? c=some o:=
  fun c o hc e=>(Heap.get?_update_other _ _ (Ne.symm hc)).trans ((Heap.get?_update_other _ _ (Ne.symm hc)).trans (g2 c o hc e))
 have g7:((hp.update S (Obj.mapSeq (·.push Value.none))).update S (Obj.mapSeq (·.pop))).objs.size=S+1:=by rw[Heap.size_update,Heap.size_update,g3]
 generalize (hp.update S (Obj.mapSeq (·.push Value.none))).update S (Obj.mapSeq (·.pop))=hq at *
 have hzq:IsZip hq z TI TO .none:=g6 _ _ nz hz
 have hnm:min n1 n2<=sizeLine:=Nat.le_trans (Nat.min_le_left _ _) hn
 refine wpAny_pure ⟨plainId_quiet F.plain_extend_loop _,rD (A:=A.in1) (I:=z) (S:=S) (n:=min n1 n2) (Jz P1 P2 S1 S2 s.heap z TI TO i1 i2 S (min n1 n2)) (Je P1 P2 s.heap z TO i1 i2 S) hnm (fun acc h J=>J.size) (fun acc h h' J hsz hk=>?_) (fun acc s' c Q' E' hlt J hL hq'=>?_) (fun acc s' c Q' E' heq J hL hq'=>?_) (min n1 n2) _ #[] _ (by simp) ?_ g5 fun h' tk acc c J hsz hL=>?_⟩
 ·refine ⟨J.size,J.inc,fun j p e=>by rw[hsz];exact J.top j p e,fun j v e=>?_,D1.frame _ _ _ J.s1 fun b hb o e=>hk b o (fun q=>nf1 (q▸hb)) e,D2.frame _ _ _ J.s2 fun b hb o e=>hk b o (fun q=>nf2 (q▸hb)) e,hk _ _ nTI J.ti,fun c o c1 c2 c3 c4 c5 e=>hk _ _ c5 (J.keep c o c1 c2 c3 c4 c5 e),by rw[hsz];exact J.big,?_⟩
  ·obtain ⟨p,x,y,a1,a2,a3,a4⟩:=J.told j v e
   exact ⟨p,x,y,a1,a2,hk _ _ (Nat.ne_of_gt a2) a3,a4⟩
  ·rcases J.st with ⟨a0,a1,a,b,a2⟩|⟨a0,T,bb,o,a1,a2,a3⟩
   ·exact .inl ⟨a0,hk _ _ nz a1,a,b,hk _ _ nTO a2⟩
   ·exact .inr ⟨a0,T,bb,o,hk _ _ nz a1,hk _ _ (Nat.ne_of_gt a3) a2,a3⟩
 ·have l1:acc.size < n1:=Nat.lt_of_lt_of_le hlt (Nat.min_le_left _ _)
  have l2:acc.size < n2:=Nat.lt_of_lt_of_le hlt (Nat.min_le_right _ _)
  have put:∀ (x y:Value) (h':Heap),P1 acc.size x->P2 acc.size y->S1 (acc.size+1) h'->S2 (acc.size+1) h'->IsPair h' s'.heap.objs.size x y->h'.objs.size=s'.heap.objs.size+1->(∀ c o,c≠z->c≠TO->c≠i1->c≠i2->s'.heap.get? c=some o->h'.get? c=some o)->
    (∃ (T:Addr) (bb:Bool) (o:Obj),dI h' z TI TO (rawInt T) (.bool bb)/\h'.get? T=some o/\S < T)->IsPair h' TI (.ref i1) (.ref i2)->Jz P1 P2 S1 S2 s.heap z TI TO i1 i2 S (min n1 n2) (acc.push (.ref s'.heap.objs.size)) h':=fun x y h' px py q1 q2 q3 q4 q5 q6 q7=>by
   refine ⟨by rw[Array.size_push];omega,fun j k p q hjk e1 e2=>?_,fun j p e=>?_,fun j v e=>?_,by rw[Array.size_push];exact q1,by rw[Array.size_push];exact q2,q7,fun c o c1 c2 c3 c4 c5 e=>q5 c o c1 c2 c3 c4 (J.keep c o c1 c2 c3 c4 c5 e),by rw[q4];exact Nat.lt_succ_of_lt J.big,.inr ⟨by rw[Array.size_push];omega,q6⟩⟩
   ·rw[Array.getElem?_push] at e1 e2
    split at e2
    ·rename_i ek
     cases e2
     split at e1
     ·omega
     ·exact J.top j p e1
    ·split at e1
     ·rename_i ej
      have:k < acc.size:=by
       rcases Nat.lt_or_ge k acc.size with h|h
       · exact h
       · rw [Array.getElem?_eq_none h] at e2; cases e2
      omega
     ·exact J.inc j k p q hjk e1 e2
   ·rw[Array.getElem?_push] at e
    split at e
    ·cases e;rw[q4];exact Nat.lt_succ_self _
    ·have:=J.top j p e;rw[q4];exact Nat.lt_succ_of_lt this
   rw[Array.getElem?_push] at e
   split at e
   ·rename_i ej
    cases e
    rw[ej]
    exact ⟨_,x,y,rfl,J.big,q3,px,py⟩
   ·obtain ⟨p,x',y',a1,a2,a3,a4⟩:=J.told j v e
    have hp1:p≠z:=fun q=>by subst q;exact absurd hzl (Nat.not_lt.mpr (Nat.le_of_lt a2))
    have hp2:p≠TO:=fun q=>by subst q;exact absurd hTOl (Nat.not_lt.mpr (Nat.le_of_lt a2))
    have hp3:p≠i1:=fun q=>by subst q;exact absurd hi1 (Nat.not_lt.mpr (Nat.le_of_lt a2))
    have hp4:p≠i2:=fun q=>by subst q;exact absurd hi2 (Nat.not_lt.mpr (Nat.le_of_lt a2))
    exact ⟨p,x',y',a1,a2,q5 _ _ hp1 hp2 hp3 hp4 a3,a4⟩
  rcases J.st with ⟨a0,a1,a,b,a2⟩|⟨a0,T,bb,o,a1,a2,a3⟩
  ·refine wL (A:=A.in1.in1) D D1 D2 a1 J.ti a2 J.s1 J.s2 l1 l2 fun x y h' tk p1 p2 b1 b2 b3 b4 b5 b6 b7=>?_
   exact hq' _ h' tk (put x y h' p1 p2 b3 b4 b5 b6 b7 ⟨_,false,_,b1,b5,J.big⟩ (b7 _ _ D.TIz D.TITO D.TIi1 D.TIi2 J.ti)) (b7 _ _ (Ne.symm nz) (Ne.symm nTO) (Ne.symm ni1) (Ne.symm ni2) hL)
  ·refine tF (A:=A.in1.in1) a1 a2 D D1 D2 J.ti J.s1 J.s2 l1 l2 fun x y h' tk p1 p2 b1 b3 b4 b5 b6 b7=>?_
   have hT1:T≠z:=fun q=>by subst q;exact absurd hzl (Nat.not_lt.mpr (Nat.le_of_lt a3))
   have hT3:T≠i1:=fun q=>by subst q;exact absurd hi1 (Nat.not_lt.mpr (Nat.le_of_lt a3))
   have hT4:T≠i2:=fun q=>by subst q;exact absurd hi2 (Nat.not_lt.mpr (Nat.le_of_lt a3))
   exact hq' _ h' tk (put x y h' p1 p2 b3 b4 b5 b6 (fun c o c1 c2 c3 c4 e=>b7 c o c1 c3 c4 e) ⟨T,true,o,b1,b7 _ _ hT1 hT3 hT4 a2,a3⟩ (b7 _ _ D.TIz D.TIi1 D.TIi2 J.ti)) (b7 _ _ (Ne.symm nz) (Ne.symm ni1) (Ne.symm ni2) hL)
 ·have hend:acc.size=n1\/(acc.size < n1/\acc.size=n2):=by rw[heq];omega
  have put:∀ (h':Heap) (tk:Nat),(∀ c o,c≠z->c≠TO->c≠i1->c≠i2->s'.heap.get? c=some o->h'.get? c=some o)->Q' none {s' with heap:=h',toks:=tk}:=fun h' tk q5=>by
   refine hq' h' tk ⟨J.inc,fun j v e=>?_,fun c o c1 c2 c3 c4 c5 e=>q5 c o c1 c2 c3 c4 (J.keep c o c1 c2 c3 c4 c5 e)⟩ (q5 _ _ (Ne.symm nz) (Ne.symm nTO) (Ne.symm ni1) (Ne.symm ni2) hL)
   obtain ⟨p,x',y',a1,a2,a3,a4⟩:=J.told j v e
   have hp1:p≠z:=fun q=>by subst q;exact absurd hzl (Nat.not_lt.mpr (Nat.le_of_lt a2))
   have hp2:p≠TO:=fun q=>by subst q;exact absurd hTOl (Nat.not_lt.mpr (Nat.le_of_lt a2))
   have hp3:p≠i1:=fun q=>by subst q;exact absurd hi1 (Nat.not_lt.mpr (Nat.le_of_lt a2))
   have hp4:p≠i2:=fun q=>by subst q;exact absurd hi2 (Nat.not_lt.mpr (Nat.le_of_lt a2))
   exact ⟨p,x',y',a1,a2,q5 _ _ hp1 hp2 hp3 hp4 a3,a4⟩
  rcases J.st with ⟨a0,a1,a,b,a2⟩|⟨a0,T,bb,o,a1,a2,a3⟩
  ·exact y0 (A:=A.in1.in1) D D1 D2 a1 J.ti a2 J.s1 J.s2 hend fun h' tk b7=>put h' tk b7
  ·exact wT (A:=A.in1.in1) a1 a2 D D1 D2 J.ti J.s1 J.s2 hend fun h' tk b7=>put h' tk fun c o c1 c2 c3 c4 e=>b7 c o c1 c3 c4 e
 ·refine ⟨Nat.zero_le _,fun j k p q _ e=>by simp at e,fun j p e=>by simp at e,fun j v e=>by simp at e,D1.frame _ _ _ h1 fun b hb o e=>g6 b o (fun q=>nf1 (q▸hb)) e,D2.frame _ _ _ h2 fun b hb o e=>g6 b o (fun q=>nf2 (q▸hb)) e,g6 _ _ nTI hTI,fun c o c1 c2 c3 c4 c5 e=>g6 c o c5 e,by rw[g7];exact Nat.lt_succ_self _,.inl ⟨rfl,hzq,a,b,g6 _ _ nTO hTO⟩⟩
 ·exact ⟨rfl,hQ h' tk acc c (fun c o c1 c2 c3 c4 e=>J.2.2 c o c1 c2 c3 c4 (fun q=>by subst q;exact absurd (Heap.lt_size e) (by rw[hSS];exact Nat.lt_irrefl _)) e) hL hsz J.1 J.2.1⟩
end
end Zp
namespace L2
open PySem PySem.Spec PyProof.Rows
structure LZ(H1 H2:Hp)(xs ys:List V)(l:Addr)(ps:List Addr):Prop where
 same:∀ b o,H1 b=some o->H2 b=some o
 new:H1 l=none
 lst:H2 l=some (.lst (ps.map .ref))
 len:ps.length=min xs.length ys.length
 tup:∀ (j:Nat) p,ps[j]? = some p->H1 p=none/\∃ u v,xs[j]? = some u/\ys[j]? = some v/\H2 p=some (.tup [u,v])
def tLZ(K:Frag)(ta:TA):TE:=fun σ H Q=>ta σ H fun vs H1=>∃ x y C1 C2 xs ys,vs=[x,y]/\k7 K H1 x C1/\k7 K H1 y C2/\C1 H1 xs/\C2 H1 ys/\xs.length<=sizeLine/\∀ l ps H2,LZ H1 H2 xs ys l ps->Q (.ref l) H2
noncomputable def zH(H:Hp)(S:Addr)(ps:List Addr)(xs ys:List V):Hp:=fun b=>if b=S then some (.lst (ps.map .ref)) else if b∈ps then (match xs[ps.idxOf b]?,ys[ps.idxOf b]? with
 | some u,some v=>some (.tup [u,v])
 | _,_=>none) else H b
theorem wU{ps:List Addr}(h:∀ (j k p q:Nat),j < k->ps[j]? = some p->ps[k]? = some q->p < q):ps.Nodup:=List.pairwise_iff_getElem.mpr fun i j hi hj hij=>Nat.ne_of_lt (h i j _ _ hij (List.getElem?_eq_getElem hi) (List.getElem?_eq_getElem hj))
theorem uT{b b0:Nat}(h:b < b0)(k:Nat):b≠b0+k:=by omega
theorem aHG{b b0 k:Nat}(h:b0+k < b):b0<=b:=by omega
theorem aHH{b b0 k:Nat}(h:b < b0)(h2:b0+k < b):False:=by omega
def eD:Value->Addr
 | .ref a=>a
 | _=>0
theorem zA{X:Cx}{a b:Expr}{ta:TA}{p1 p2 pos pos2:Pos}(hc:X.calm=true)(hgl:Gl X "list")(hml:X.mg "list"=none)(hgz:Gl X "zip")(hmz:X.mg "zip"=none)(ha:PA X [a,b] ta)
  (hs:starEach [a,b] X.env=[(false,eval a X.env),(false,eval b X.env)]:=by rfl) (hs2:starEach [b] X.env=[(false,eval b X.env)]:=by rfl)
  (hs3:starEach [.Call (.Name "zip" p2) [a,b] [] pos2] X.env=[(false,eval (.Call (.Name "zip" p2) [a,b] [] pos2) X.env)]:=by rfl) :
  PE X (.Call (.Name "list" p1) [.Call (.Name "zip" p2) [a,b] [] pos2] [] pos) (tLZ X.K ta):=by
 intro pins s σ H Q I h
 refine wpAny_Call_Name_kw (gL I hgl hml PyProof.Rows.boot_list ?_ (by decide) (by decide))
 refine PyProof.Rows.callWith_type1 (e:=.Call (.Name "zip" p2) [a,b] [] pos2) (rest:=[]) ?_ hs3 rfl
 rw[hs3]
 show wpAny _ _ (spliced [(false,eval (.Call (.Name "zip" p2) [a,b] [] pos2) X.env)]) _ _ s
 refine Calls.spliced_cons ?_
 refine wpAny_Call_Name_kw (gL I hgz hmz PyProof.Rows.boot_zip (PyProof.Rows.callWith_type1 (thn (ha pos2 pins s σ H _ I h) fun us s1 ⟨vs,H1,I1,r1,q1⟩=>?_) (by rw[hs,hs2]) (by rw[hs2];rfl)))
 obtain ⟨x,y,C1,C2,xs,ys,rfl,c1,c2,k1,k2,hxl,q⟩:=q1
 cases r1 with
 | cons ru rr=>
  cases rr with
  | cons rv rr=>
   cases rr
   rename_i u1 _ u2
   obtain ⟨o1,t1,a1,a2,a3,a4⟩:=iQ I1 ru c1
   obtain ⟨o2,t2,b1,b2,b3,b4⟩:=iQ I1 rv c2
   refine Zp.q9 (a1 _ fun _ _ e=>e) (b1 _ fun _ _ e=>Heap.get?_push_of_some _ e) a2 b2 fun h' z1 z2 z3 z4 z5 z6 kp=>?_
   refine Calls.spliced_nil ?_
   have I2:Inv X pins σ H1 {s1 with heap:=h'}:=I1.kept (t':=s1.toks) kp
   have fpk:∀ c,s1.heap.objs.size<=c->eI X pins H1 c:=fun c hle=>I1.fpOk hle (I1.hok.fresh hle)
   have hhd:X.A.in1.in1.in1.handled=none:=I1.ok.hd hc
   obtain ⟨f1,P1,S1,D1,d1,d2,d3,d4⟩:=(a3 s1.heap.objs.size).draw X rfl rfl rfl 0 pins _ σ H1 xs X.A.in1.in1.in1 I2 (fpk _ (Nat.le_refl _)) (a4 _ _ z4) k1 hhd
   obtain ⟨f2,P2,S2,D2,e1,e2,e3,e4⟩:=(b3 (s1.heap.objs.size+1)).draw X rfl rfl rfl 0 pins _ σ H1 ys X.A.in1.in1.in1 I2 (fpk _ (Nat.le_add_right _ _)) (b4 _ _ z5) k2 hhd
   generalize hb0:s1.heap.objs.size=b0 at *
   have ne:∀ i j:Nat,i≠j->b0+i≠b0+j:=fun i j hij z=>hij (Nat.add_left_cancel z)
   have ne0:∀ i:Nat,0 < i->b0+i≠b0:=fun i hi z=>by have:b0+i=b0+0:=z;have:=Nat.add_left_cancel this;omega
   have D:Zp.Apart (b0+4) (b0+2) (b0+3) b0 (b0+1) f1 f2:=⟨ne _ _ (by decide),ne _ _ (by decide),(ne0 4 (by decide)).symm,ne _ _ (by decide),ne _ _ (by decide),ne0 2 (by decide),ne _ _ (by decide),ne0 3 (by decide),ne _ _ (by decide),(ne0 1 (by decide)).symm,
    d4 _ (fpk _ (Nat.le_add_right _ _)) (ne0 4 (by decide)),e4 _ (fpk _ (Nat.le_add_right _ _)) (ne 4 1 (by decide)),d4 _ (fpk _ (Nat.le_add_right _ _)) (ne0 3 (by decide)),e4 _ (fpk _ (Nat.le_add_right _ _)) (ne 3 1 (by decide)),e4 _ (fpk _ (Nat.le_refl _)) (ne0 1 (by decide)).symm,d4 _ (fpk _ (Nat.le_add_right _ _)) (ne0 1 (by decide))⟩
   have hsz:({s1 with heap:=h'}:Shared).heap.objs.size=b0+5:=z6
   refine Zp.y9 (s:={s1 with heap:=h'}) (I1.ok.hd hc) D D1 D2 z1 z2 z3 d1 e1 (by rw[hsz];exact d4 _ (fpk _ (Nat.le_add_right _ _)) (ne0 5 (by decide))) (by rw[hsz];exact e4 _ (fpk _ (Nat.le_add_right _ _)) (ne 5 1 (by decide))) (by rw[hsz];exact Nat.lt_add_of_pos_right (by decide)) (by rw[hsz];exact Nat.add_lt_add_left (by decide) _) hxl fun h2 tk acc c kk hL hn inc told=>?_
   rw[hsz] at hL told ⊢
   have hget:∀ (j:Nat) p,(acc.toList.map eD)[j]? = some p->acc[j]? = some (.ref p):=fun j p e=>by
    rw[List.getElem?_map,Array.getElem?_toList] at e
    cases q:acc[j]? with
    | none=>rw[q] at e;cases e
    | some v=>
     rw[q] at e
     obtain ⟨p',_,_,rfl,_⟩:=told j v q
     cases e;rfl
   have nd:(acc.toList.map eD).Nodup:=wU fun j k p q hjk ep eq=>inc j k p q hjk (hget j p ep) (hget k q eq)
   have hps:(acc.toList.map eD).map (fun p=>V.ref p)=(acc.toList.map eD).map V.ref:=rfl
   have pt:∀ (j:Nat) p,(acc.toList.map eD)[j]? = some p->b0+5 < p/\∃ u v x y,xs[j]? = some u/\ys[j]? = some v/\aR u x/\aR v y/\IsPair h2 p x y/\zH H1 (b0+5) (acc.toList.map eD) xs ys p=some (.tup [u,v]):=fun j p e=>by
    obtain ⟨p',x',y',e0,g1,g2,g3,g4⟩:=told j _ (hget j p e)
    cases e0
    obtain ⟨u,hu,ru'⟩:=d3 j x' g3
    obtain ⟨v,hv,rv'⟩:=e3 j y' g4
    refine ⟨g1,u,v,x',y',hu,hv,ru',rv',g2,?_⟩
    unfold zH
    rw[if_neg (Nat.ne_of_gt g1),if_pos (List.mem_of_getElem? e)]
    have hj:(acc.toList.map eD).idxOf p=j:=by
     obtain ⟨hl,he⟩:=List.getElem?_eq_some_iff.mp e
     rw[<-he];exact nd.idxOf_getElem j hl
    rw[hj,hu,hv]
   have out:∀ b,b < b0->zH H1 (b0+5) (acc.toList.map eD) xs ys b=H1 b:=fun b hb=>by
    unfold zH
    rw[if_neg (uT hb 5),if_neg]
    intro hm
    obtain ⟨j,hj⟩:=List.getElem?_of_mem hm
    exact aHH hb (pt j b hj).1
   have hin:∀ b o,H1 b=some o->b < b0:=fun b o e=>by
    rcases Nat.lt_or_ge b b0 with z|z
    ·exact z
    ·rw[(fpk b z).1] at e;cases e
   have old:∀ b o,s1.heap.get? b=some o->h2.get? b=some o:=fun b o e=>by
    have hlt:b < b0:=by rw[<-hb0];exact Heap.lt_size e
    exact kk b o (uT hlt 4) (uT hlt 3) (Nat.ne_of_lt hlt) (uT hlt 1) (kp b o e)
   have lay:LZ H1 (zH H1 (b0+5) (acc.toList.map eD) xs ys) xs ys (b0+5) (acc.toList.map eD):=⟨fun b o e=>by rw[out b (hin b o e)];exact e,(fpk _ (Nat.le_add_right _ _)).1,by unfold zH;rw[if_pos rfl],by rw[List.length_map,Array.length_toList];exact hn,fun j p e=>by
    obtain ⟨g1,u,v,_,_,hu,hv,_,_,_,g⟩:=pt j p e
    exact ⟨(fpk p (aHG g1)).1,u,v,hu,hv,g⟩⟩
   refine ⟨.ref (b0+5),_,I1.un (t':=tk) ⟨fun b u q _ _ _=>old b u q,fun b u q _ _ _=>⟨u.slots,old b u q⟩,fun b u q n _=>by rw[out b (by rw[<-hb0];exact Heap.lt_size q)];exact n,fun b u q _=>⟨u,old b u q⟩,fun b zs q=>lay.same _ _ q,fun b o u q=>lay.same _ _ q,fun b zs q=>lay.same _ _ q⟩ fun b u e=>?_,rfl,q _ _ _ lay⟩
   by_cases hb:b=b0+5
   ·subst hb
    rw[lay.lst] at e
    cases e
    refine ⟨by rw[List.length_map,lay.len];exact Nat.le_trans (Nat.min_le_left _ _) hxl,acc.toList,c,?_,by simpa using hL⟩
    refine lM (by rw[List.length_map,List.length_map]) fun j x y g1 g2=>?_
    rw[List.getElem?_map] at g1
    cases g:(acc.toList.map eD)[j]? with
    | none=>rw[g] at g1;cases g1
    | some p=>
     rw[g] at g1
     cases g1
     have:=hget j p g
     rw[<-Array.getElem?_toList,g2] at this
     cases this
     rfl
   ·by_cases hm:b∈acc.toList.map eD
    ·obtain ⟨j,hj⟩:=List.getElem?_of_mem hm
     obtain ⟨g1,u',v',x',y',hu,hv,ru',rv',g2,g⟩:=pt j b hj
     rw[g] at e
     cases e
     exact ⟨by show 2<=sizeLine;decide,[x',y'],.cons ru' (.cons rv' .nil),⟨_,g2,rfl,_,rfl⟩⟩
    ·have hb1:H1 b=some u:=by unfold zH at e;rw[if_neg hb,if_neg hm] at e;exact e
     exact (I1.hok b u hb1).stay (fun c' v' _ q'=>old c' v' q') (fun c' q'=>lay.same _ _ q') (fun c' zs q'=>lay.same _ _ q') fun c' zs q'=>lay.same _ _ q'
end L2
namespace Fl
open PySem L2 PyProof.Rows
section
variable{X:Cx}{c:Ct}{E:XK}{e:Expr}
theorem pF{K:Frag}{F2:Hp}:∀ {us vs:List V} {xs ys:List PyData} {ps:List Addr},DatVs K F2 us xs->DatVs K F2 vs ys->ps.length=min us.length vs.length->(∀ (j:Nat) p,ps[j]? = some p->∃ u v,us[j]? = some u/\vs[j]? = some v/\F2 p=some (.tup [u,v]))->DatVs K F2 (ps.map .ref) ((xs.zip ys).map uQ)
 | [],_,_,_,ps,.nil,_,h,_=>by
  have:ps=[]:=List.length_eq_zero_iff.mp (by simpa using h)
  subst this
  exact .nil
 | _::_,[],_,_,ps,.cons _ _,.nil,h,_=>by
  have:ps=[]:=List.length_eq_zero_iff.mp (by simpa using h)
  subst this
  exact .nil
 | u::us,v::vs,x::xs,y::ys,ps,.cons r1 t1,.cons r2 t2,h,hp=>by
  cases ps with
  | nil=>simp at h
  | cons p ps=>
   obtain ⟨u',v',e1,e2,e3⟩:=hp 0 p rfl
   simp only[List.getElem?_cons_zero,Option.some.injEq] at e1 e2
   subst e1 e2
   exact .cons (.tup (SqT.of e3) (.cons r1 (.cons r2 .nil))) (pF t1 t2 (by simp at h ⊢;omega) fun j q hq=>by
    obtain ⟨u',v',a1,a2,a3⟩:=hp (j+1) q (by simpa using hq)
    exact ⟨u',v',by simpa using a1,by simpa using a2,a3⟩)
theorem zB{f g:Sg->R PyData}(hK:X.K=c.K)(h:PE X e (tLZ X.K (cS (tV (aQ c) c E f) (cS (tV (aQ c) c E g) eJ)))):PN X c E e (e2 iR f g):=PE.imp h fun σ H Q zz0=>by
 obtain ⟨ρ,F,ab,k⟩:=zz0
 refine ⟨ρ,F,ab,(Rk.bind k).imp fun x _ q v F1 H1 s1 r1=>⟨ρ,F1,ab.ext s1,((Rk.bind q).ext s1).imp fun y _ q w F' H' s r=>?_⟩⟩
 unfold iR at q
 cases e1:aY x with
 | bad=>rw[e1] at q;exact q.elim
 | ex e=>exact absurd e1 gW
 | ok xs=>
  rw[e1] at q
  cases e2:aY y with
  | bad=>rw[R.bind_ok,e2] at q;exact q.elim
  | ex e=>exact absurd e2 gW
  | ok ys=>
   rw[R.bind_ok,e2] at q
   have r1':aN c.K F' H' v x:=aN.ext s r1
   obtain ⟨C1,us,a1,a2,a3⟩:=lS s.fh r1' e1
   obtain ⟨C2,vs,b1,b2,b3⟩:=lS s.fh r e2
   rw[hK]
   refine ⟨v,w,C1,C2,us,vs,rfl,a1,b1,a2 H' (bR _),b2 H' (bR _),by rw[a3.length,cD];exact j4 e1,fun l ps H2 L=>?_⟩
   have nl:l∉ps:=fun hm=>by
    obtain ⟨j,hj⟩:=List.getElem?_of_mem hm
    obtain ⟨_,u',v',_,_,z⟩:=L.tup j l hj
    rw[L.lst] at z;cases z
   have hF:∀ b,F' b≠none->b∉ps:=fun b hb hm=>by
    obtain ⟨j,hj⟩:=List.getElem?_of_mem hm
    exact hb (aW s.fh (L.tup j b hj).1)
   have ex:Ext F' H' (fun b=>if b∈ps then H2 b else F' b) H2:=⟨L.same,fun b o z=>by
     show (if b∈ps then H2 b else F' b)=some o
     rw[if_neg (hF b (by rw[z];exact fun w=>nomatch w))];exact z,fun b o z=>by
     have z:(if b∈ps then H2 b else F' b)=some o:=z
     by_cases hm:b∈ps
     ·rw[if_pos hm] at z;exact z
     ·rw[if_neg hm] at z;exact L.same b o (s.fh b o z),fun b z n=>by
     have n:(if b∈ps then H2 b else F' b)≠none:=n
     by_cases hm:b∈ps
     ·obtain ⟨j,hj⟩:=List.getElem?_of_mem hm
      exact .inl (L.tup j b hj).1
     ·rw[if_neg hm] at n;exact absurd z n⟩
   refine Rk.ok q _ _ H2 ((s1.trans s).trans ex) ⟨l,ps.map .ref,rfl,aW (s1.trans s).hh L.new,L.lst,?_,pF (a3.same ex.ff) (b3.same ex.ff) L.len fun j p hj=>?_⟩
   ·show (if l∈ps then H2 l else F' l)=none
    rw[if_neg nl];exact aW s.fh L.new
   ·obtain ⟨_,u',v',h1,h2,h3⟩:=L.tup j p hj
    exact ⟨u',v',h1,h2,by show (if p∈ps then H2 p else F' p)=_;rw[if_pos (List.mem_of_getElem? hj)];exact h3⟩
end
end Fl
namespace HT
open PySem PySem.Spec PyProof.Rows L2
end HT
namespace Fl
open PySem L2 PyProof.Rows
end Fl
namespace L2
open PySem PySem.Spec PyProof.Rows
theorem rE{X:Cx}:dY X (.type "range") (fun xs H Q=>∃ a b:Int,xs=[.int a,.int b]/\∀ p,H p=none->Q (.ref p) (upd H p (.rng a b))):=by
 intro pins s σ H xs us Q I r h
 obtain ⟨a,b,rfl,q⟩:=h
 obtain ⟨u,v,rfl,⟨t,rfl⟩,⟨t2,rfl⟩⟩:=mS r
 refine call_range_2 ?_
 refine ⟨.ref s.heap.objs.size,_,I.laid (o:=.rng a b) (fun b ob q=>Heap.get?_push_of_some _ q) (Nat.le_refl _) ⟨_,_,_,Heap.get?_push_size _ rfl⟩,rfl,q _ (I.hok.fresh (Nat.le_refl _))⟩
theorem oH{X:Cx}(hc:X.calm=true):dY X (.type "list") (fun xs H Q=>∃ (p:Addr) (a b:Int),xs=[.ref p]/\H p=some (.rng a b)/\0<=a/\a<=b/\b<=1000000/\∀ l,H l=none->Q (.ref l) (upd H l (.lst ((List.range (b - a).toNat).map fun i:Nat=>V.int (a+(i:Int)))))):=by
 intro pins s σ H xs us Q I r h
 obtain ⟨p,a,b,rfl,hp,h0,hab,hb,q⟩:=h
 obtain ⟨u,rfl,ru⟩:=iX r
 cases (show u=Value.ref p from ru)
 obtain ⟨t,u,v,hr⟩:=(show bW X.prog X.w H s.heap p (.rng a b) from I.hok p _ hp)
 refine call_list_range (a:=a) (b:=b) (c:=1) (n:=(b - a).toNat) (I.ok.hd hc) hr (small_one (by omega) (by omega) (by omega) (by omega)) (by rw[rangeSize_one];split<;>omega) (by omega) fun h' tk acc c kp e it=>?_
 have hv:aV ((List.range (b - a).toNat).map fun i:Nat=>V.int (a+(i:Int))) acc.toList:=by
  refine lM (by rw[List.length_map,List.length_range,Array.length_toList,it.1]) fun i x y h1 h2=>?_
  rw[List.getElem?_map] at h1
  cases e':(List.range (b - a).toNat)[i]? with
  | none=>rw[e'] at h1;cases h1
  | some k=>
   rw[e'] at h1
   cases h1
   have hk:k=i:=by
    obtain ⟨hl,he⟩:=List.getElem?_eq_some_iff.mp e'
    rw[<-he];simp
   obtain ⟨t',rfl⟩:=it.2 i y (by rw[<-h2,Array.getElem?_toList])
   refine ⟨t',?_⟩
   rw[hk,show a+(i:Int) * 1=a+(i:Int) by omega]
 refine ⟨.ref s.heap.objs.size,_,I.laid (t':=tk) (o:=.lst ((List.range (b - a).toNat).map fun i:Nat=>V.int (a+(i:Int)))) kp (Nat.le_refl _) ⟨by simp only[List.length_map,List.length_range];exact Nat.le_trans (by omega:(b - a).toNat<=1000000) (by decide),acc.toList,c,hv,by simpa using e⟩,rfl,q _ (I.hok.fresh (Nat.le_refl _))⟩
end L2
namespace Fl
open PySem L2 PyProof.Rows
def rF:PyData->PyData->R (List PyData)
 | .int a,.int b=>if 0<=a/\a<=b/\b<=1000000 then .ok ((List.range (b - a).toNat).map fun i:Nat=>.int (a+(i:Int))) else .bad
 | _,_=>.bad
section
variable{X:Cx}{c:Ct}{E:XK}{e:Expr}
theorem l0{K:Frag}{F:Hp}(a:Int):∀ (xs:List Nat),DatVs K F (xs.map fun i:Nat=>V.int (a+(i:Int))) (xs.map fun i:Nat=>PyData.int (a+(i:Int)))
 | []=>.nil
 | x::xs=>.cons (.int _) (l0 a xs)
theorem wV{f g:Sg->R PyData}(h:PE X e (tCB (fun xs H Q=>∃ (p:Addr) (a b:Int),xs=[.ref p]/\H p=some (.rng a b)/\0<=a/\a<=b/\b<=1000000/\∀ l,H l=none->Q (.ref l) (upd H l (.lst ((List.range (b - a).toNat).map fun i:Nat=>V.int (a+(i:Int))))))
  (cS (tCB (fun xs H Q=>∃ a b:Int,xs=[.int a,.int b]/\∀ p,H p=none->Q (.ref p) (upd H p (.rng a b))) (cS (tV (aQ c) c E f) (cS (tV (aQ c) c E g) eJ))) eJ))):PN X c E e (e2 rF f g):=PE.imp h fun σ H Q ⟨ρ,F,ab,k⟩=>by
 refine ⟨ρ,F,ab,(Rk.bind k).imp fun d hd q v F1 H1 s1 r1=>?_⟩
 refine ⟨ρ,F1,ab.ext s1,((Rk.bind q).ext s1).imp fun d2 hd2 q2 v2 F2 H2 s2 r2=>?_⟩
 clear hd hd2
 unfold rF at q2
 split at q2
 ·rename_i a b
  split at q2
  ·rename_i hn
   obtain rfl:=aN.int_of r1
   obtain rfl:=aN.int_of r2
   refine ⟨a,b,rfl,fun p hp=>?_⟩
   refine ⟨p,a,b,rfl,aS,hn.1,hn.2.1,hn.2.2,fun l hl=>?_⟩
   have e1:Ext F2 H2 F2 (upd H2 p (.rng a b)):=Ext.own s2.fh hp
   have e2:Ext F2 _ F2 (upd (upd H2 p (.rng a b)) l (.lst ((List.range (b - a).toNat).map fun i:Nat=>V.int (a+(i:Int))))):=Ext.own e1.fh hl
   exact Rk.ok q2 _ F2 _ (((s1.trans s2).trans e1).trans e2) ⟨l,_,rfl,aW s1.hh (aW s2.hh (aW e1.hh hl)),aS,aW e1.fh hl,l0 a _⟩
  ·exact q2.elim
 ·exact q2.elim
end
end Fl
namespace Mc
open PySem L2 PyProof.Rows Fl
noncomputable def wW:Sg->R Fw:=(bN (vD (e1 (i4 "str") (rV 0))))
noncomputable def pG:List A->R A:=fnF 1 wW
noncomputable def wX:Sg->R Fw:=(aE (nL 3)
 (aE (cA (d0 (e1 asB (eA (bD 1 pG (aB (vV 2) aL))))) (aE (sIf (e1 asB (gB false 3 (eV 2))) (bN (vD (eC (.str "ever")))) sNx)
 (aE (iB 3 (eV 2) (eC (.bool true)))
 (aE (bI 4 (vD (e2 dIx (rV 1) (rV 2))))
 (aE (sIf (e1 asB (e2 dEq (e2 dIx (rV 4) (eC (.int 1))) (eC (.int 1)))) (bN (vD (e2 dIx (rV 4) (eC (.int 0))))) sNx)
 (bI 2 (vD (e2 dIx (rV 0) (e2 dIx (rV 4) (eC (.int 0)))))))))))
 (bN (vV 2))))
noncomputable def pH:List A->R A:=fnF 5 wX
noncomputable def zC:Sg->R Fw:=(aE (bI 2 (bD 3 pH (aB (vD (e2 dIx (rV 0) (eC (.int 1)))) (aB (vV 1) (aB (vD (e2 dIx (rV 0) (eC (.int 0)))) aL)))))
 (aE (bI 3 (vD (e1 dTup (eL (dL [none,some 0,some 1] (dN (e1 dLen (rV 1))) (stN 0) eM (eA (bD 3 pH (aB (vD (e2 dIx (rV 1) (eC (.int 1)))) (aB (vV 2) (aB (vV 0) aL))))))))))
 (bN (vD (cZ (aB (eV 2) (aB (eV 3) aL)))))))
noncomputable def zD:List A->R A:=fnF 4 zC
noncomputable def j7:Sg->R Fw:=(bN (vD (e1 dLen (e2 dIx (e2 dIx (rV 0) (eC (.int 0))) (eC (.int 0))))))
noncomputable def cO:List A->R A:=fnF 1 j7
noncomputable def iS:Sg->R Fw:=(bN (vD (eL (e2 iR (e2 dIx (e2 dIx (rV 0) (eC (.int 0))) (e2 dIx (rV 2) (eC (.int 0)))) (e2 dIx (e2 dIx (rV 1) (eC (.int 0))) (e2 dIx (rV 2) (eC (.int 1))))))))
noncomputable def dX:List A->R A:=fnF 3 iS
noncomputable def i6:Sg->R Fw:=(bN (vD (e2 dEq (e2 dIx (e2 dIx (rV 0) (eC (.int 1))) (e2 dIx (rV 2) (eC (.int 0)))) (e2 dIx (e2 dIx (rV 1) (eC (.int 1))) (e2 dIx (rV 2) (eC (.int 1)))))))
noncomputable def eG:List A->R A:=fnF 3 i6
noncomputable def i7:Sg->R Fw:=(bN (vD (kT (eCh dLe dLt (eC (.int 0)) (e2 dIx (rV 2) (eC (.int 0))) (e1 dLen (e2 dIx (rV 0) (eC (.int 0))))) (eCh dLe dLt (eC (.int 0)) (e2 dIx (rV 2) (eC (.int 1))) (e1 dLen (e2 dIx (rV 1) (eC (.int 0))))))))
noncomputable def eH:List A->R A:=fnF 3 i7
end Mc
namespace Mc
open PySem L2 PyProof.Rows
end Mc
namespace Fl
open PySem L2 PyProof.Rows
@[simp] theorem aAV(d:PyData)(ρ:Sg):eC d ρ=.ok d:=id rfl
@[simp] theorem aFZ{α β:Type}(g:α->R β)(f:Sg->R α)(ρ:Sg):e1 g f ρ=(f ρ).bind g:=id rfl
@[simp] theorem aF0{α β γ:Type}(g:α->β->R γ)(f:Sg->R α)(f':Sg->R β)(ρ:Sg):e2 g f f' ρ=(f ρ).bind fun x=>(f' ρ).bind fun y=>g x y:=id rfl
@[simp] theorem aF1(i:Nat)(ρ:Sg):eV i ρ=match ρ[i]? with|some (some (.d x))=>.ok x|_=>.bad:=id rfl
@[simp] theorem aF2(i:Nat)(ρ:Sg):rV i ρ=match ρ[i]? with|some (some (.d x))=>.ok x|some (some (.l xs))=>.ok (.list xs)|_=>.bad:=id rfl
@[simp] theorem aJO(i:Nat)(ρ:Sg):vV i ρ=match ρ[i]? with|some (some (.d x))=>.ok (.d x)|some (some (.x e))=>.ok (.x e)|some (some (.g k n f))=>.ok (.g k n f)|some (some (.f kvs))=>.ok (.f kvs)|_=>.bad:=id rfl
@[simp] theorem aF3(f:Sg->R PyData)(ρ:Sg):vD f ρ=(f ρ).bind fun x=>.ok (.d x):=id rfl
@[simp] theorem aIR(x:PyData):getD (.d x)=.ok x:=id rfl
@[simp] theorem aJP(f:Sg->R A)(ρ:Sg):eA f ρ=(f ρ).bind getD:=id rfl
@[simp] theorem aF4(f:Sg->R (List PyData))(ρ:Sg):eL f ρ=(f ρ).bind fun xs=>.ok (.list xs):=id rfl
@[simp] theorem tG{α:Type}(ρ:Sg):(aL (α:=α)) ρ=.ok []:=id rfl
@[simp] theorem rG{α:Type}(f:Sg->R α)(g:Sg->R (List α))(ρ:Sg):aB f g ρ=(f ρ).bind fun x=>(g ρ).bind fun xs=>.ok (x::xs):=id rfl
@[simp] theorem aH5(f:Sg->R (List PyData))(ρ:Sg):cZ f ρ=(f ρ).bind fun xs=>if xs.length<=16777216 then .ok (.tuple xs) else .bad:=id rfl
@[simp] theorem tH(f:Sg->R (List PyData))(ρ:Sg):dM f ρ=(f ρ).bind fun xs=>if xs.length<=16777216 then .ok xs else .bad:=id rfl
@[simp] theorem aHI(n:Nat)(G:List A->R A)(f:Sg->R (List A))(ρ:Sg):bD n G f ρ=(f ρ).bind fun as=>if as.length=n then G as else .bad:=id rfl
@[simp] theorem aEG(n:Nat)(fb:Sg->R Fw)(as:List A):fnF n fb as=(fb (as.map some++List.replicate (n - as.length) none)).bind fun w=>match w with | .rt (.l _)=>.bad | .rt a=>.ok a | .nx _=>.ok (.d .none)|_=>.bad:=id rfl
@[simp] theorem aIS(ρ:Sg):sNx ρ=.ok (.nx ρ):=id rfl
@[simp] theorem iH(f g:Sg->R Fw)(ρ:Sg):aE f g ρ=(f ρ).bind fun w=>match w with | .nx ρ'=>g ρ'|w=>.ok w:=id rfl
@[simp] theorem aH6(f:Sg->R A)(ρ:Sg):bN f ρ=(f ρ).bind fun a=>.ok (.rt a):=id rfl
@[simp] theorem aHJ(ρ:Sg):aFP ρ=.ok (.rt (.d .none)):=id rfl
@[simp] theorem aIT(t:Sg->R Bool)(f g:Sg->R Fw)(ρ:Sg):sIf t f g ρ=(t ρ).bind fun b=>if b=true then f ρ else g ρ:=id rfl
@[simp] theorem aIU{α:Type}(t:Sg->R Bool)(f g:Sg->R α)(ρ:Sg):eIf t f g ρ=(t ρ).bind fun b=>if b=true then f ρ else g ρ:=id rfl
@[simp] theorem aCC(i:Nat)(f:Sg->R A)(ρ:Sg):bI i f ρ=(f ρ).bind fun a=>.ok (.nx (ρ.set i (some a))):=id rfl
@[simp] theorem rH(i:Nat)(f:Sg->R (List PyData))(ρ:Sg):cB i f ρ=(f ρ).bind fun xs=>.ok (.nx (ρ.set i (some (.l xs)))):=id rfl
@[simp] theorem aHK(f:Sg->R A)(ρ:Sg):aAO f ρ=(f ρ).bind fun _=>.ok (.nx ρ):=id rfl
@[simp] theorem aIV(i:Nat)(f:Sg->R Fw)(ρ:Sg):sFz i f ρ=f (fz i ρ):=id rfl
@[simp] theorem aJQ(i:Nat)(ρ:Sg):fz i ρ=match ρ[i]? with|some (some (.l xs))=>ρ.set i (some (.d (.list xs)))|_=>ρ:=id rfl
@[simp] theorem aCD(i:Nat)(f:Sg->R PyData)(ρ:Sg):e8 i f ρ=match ρ[i]? with|some (some (.l xs))=>(f ρ).bind fun x=>if xs.length < 16777216 then .ok (.nx (ρ.set i (some (.l (xs++[x]))))) else .bad|_=>.bad:=id rfl
@[simp] theorem aH7(fs:PyData->Sg->Option Sg)(f:Sg->R PyData)(ρ:Sg):mI fs f ρ=(f ρ).bind fun x=>(mH (fs x ρ)).bind fun ρ'=>.ok (.nx ρ'):=id rfl
@[simp] theorem aCE(fi:Sg->R (List PyData))(fs:PyData->Sg->Option Sg)(fb:Sg->R Fw)(ρ:Sg):eU fi fs fb ρ=(fi ρ).bind fun xs=>eS fs fb xs ρ:=id rfl
@[simp] theorem aHL(js:List (Option Nat))(fi:Sg->R (List PyData))(fs:PyData->Sg->Option Sg)(ft:Sg->R Bool)(fe:Sg->R PyData)(ρ:Sg):dL js fi fs ft fe ρ=(fi ρ).bind fun xs=>compL fs ft fe (fX js ρ) xs:=id rfl
@[simp] theorem aGH(cn:Str)(fs:List Str)(f:Sg->R (List PyData))(ρ:Sg):aD0 cn fs f ρ=(f ρ).bind fun xs=>if xs.length=fs.length then .ex ⟨cn,fs.zip xs⟩ else .bad:=id rfl
@[simp] theorem aIW(i:Nat)(x:PyData)(ρ:Sg):stN i x ρ=some (ρ.set i (some (.d x))):=id rfl
@[simp] theorem aIX(fs:List (PyData->Sg->Option Sg))(xs:List PyData)(ρ:Sg):stT fs (.tuple xs) ρ=stL fs xs ρ:=id rfl
@[simp] theorem aH8(ρ:Sg):stL [] [] ρ=some ρ:=id rfl
@[simp] theorem aHM(f:PyData->Sg->Option Sg)(fs:List (PyData->Sg->Option Sg))(x:PyData)(xs:List PyData)(ρ:Sg):stL (f::fs) (x::xs) ρ=(f x ρ).bind (stL fs xs):=id rfl
@[simp] theorem aCF(ρ:Sg):eM ρ=.ok true:=id rfl
@[simp] theorem aIY(b:Bool):asB (.bool b)=.ok b:=id rfl
@[simp] theorem aH9(f:Sg->R Bool)(ρ:Sg):d0 f ρ=(f ρ).bind fun b=>.ok (!b):=id rfl
@[simp] theorem aIA(f g:Sg->R Bool)(ρ:Sg):uM f g ρ=(f ρ).bind fun b=>if b=true then g ρ else .ok false:=id rfl
@[simp] theorem aIZ(f g:Sg->R Bool)(ρ:Sg):bOr f g ρ=(f ρ).bind fun b=>if b=true then .ok true else g ρ:=id rfl
@[simp] theorem aIB(f:Sg->R PyData)(ρ:Sg):aG7 f ρ=(f ρ).bind fun x=>(asB x).bind fun b=>.ok (.bool (!b)):=id rfl
@[simp] theorem aIC(f g:Sg->R PyData)(ρ:Sg):kT f g ρ=(f ρ).bind fun x=>(asB x).bind fun b=>if b=true then g ρ else .ok (.bool false):=id rfl
@[simp] theorem aI0(f g:Sg->R PyData)(ρ:Sg):eOr f g ρ=(f ρ).bind fun x=>(asB x).bind fun b=>if b=true then .ok (.bool true) else g ρ:=id rfl
@[simp] theorem jD(g g':PyData->PyData->R PyData)(fa fb fc:Sg->R PyData)(ρ:Sg):eCh g g' fa fb fc ρ=(fa ρ).bind fun x=>(fb ρ).bind fun y=>(g x y).bind fun z=>(asB z).bind fun k=>if k=true then (fc ρ).bind fun w=>g' y w else .ok (.bool false):=id rfl
@[simp] theorem aI1{α:Type}(g:PyData->Option Int->Option Int->R α)(f:Sg->R PyData)(lo hi:Sg->R (Option Int))(ρ:Sg):eSl g f lo hi ρ=(f ρ).bind fun x=>(lo ρ).bind fun l=>(hi ρ).bind fun h=>g x l h:=id rfl
@[simp] theorem aI2(ρ:Sg):oNo ρ=.ok none:=id rfl
@[simp] theorem aI3(f:Sg->R PyData)(ρ:Sg):oSo f ρ=(f ρ).bind fun x=>match x with | .int i=>.ok (some i)|_=>.bad:=id rfl
@[simp] theorem uU(f:Sg->R PyData)(ρ:Sg):dN f ρ=(f ρ).bind fun x=>match x with | .int j=>gT 0 j|_=>.bad:=id rfl
@[simp] theorem aF5(f g:Sg->R PyData)(ρ:Sg):aBO f g ρ=(f ρ).bind fun x=>(g ρ).bind fun y=>match x,y with | .int i,.int j=>gT i j|_,_=>.bad:=id rfl
@[simp] theorem aID(f:Sg->R PyData)(g:Sg->R (Option Int))(ρ:Sg):aHA f g ρ=(f ρ).bind fun x=>(g ρ).bind fun o=>if o=some (-1) then aD4 x else .bad:=id rfl
@[simp] theorem aIE(i:Nat)(g:PyData->PyData->R PyData)(f:Sg->R PyData)(ρ:Sg):aG8 i g f ρ=(eV i ρ).bind fun x=>(f ρ).bind fun y=>(g x y).bind fun z=>.ok (.nx (ρ.set i (some (.d z)))):=id rfl
@[simp] theorem aHN(i:Nat)(ρ:Sg):nL i ρ=.ok (.nx (ρ.set i (some (.m [])))):=id rfl
@[simp] theorem tJ(neg:Bool)(i:Nat)(f:Sg->R PyData)(ρ:Sg):gB neg i f ρ=(f ρ).bind fun k=>match ρ[i]? with|some (some (.m kvs))=>if bM k (kvs.map (·.1))=true then .ok (.bool (if neg=true then !cF kvs k else cF kvs k)) else .bad|some (some (.f kvs))=>if bM k (kvs.map (·.1))=true then .ok (.bool (if neg=true then !cF kvs k else cF kvs k)) else .bad|_=>.bad:=id rfl
@[simp] theorem aHO(i:Nat)(f:Sg->R PyData)(ρ:Sg):gJ i f ρ=match ρ[i]? with|some (some (.m kvs))=>(f ρ).bind fun k=>if bM k (kvs.map (·.1))=true then (match cI kvs k with|some v=>.ok v|none=>.bad) else .bad|some (some (.f kvs))=>(f ρ).bind fun k=>if bM k (kvs.map (·.1))=true then (match cI kvs k with|some v=>.ok v|none=>.bad) else .bad|_=>.bad:=id rfl
@[simp] theorem aHP(i:Nat)(f g:Sg->R PyData)(ρ:Sg):iB i f g ρ=(g ρ).bind fun v=>match ρ[i]? with|some (some (.m kvs))=>(f ρ).bind fun k=>if bM k (kvs.map (·.1))=true/\kvs.length<=16777216 then .ok (.nx (ρ.set i (some (.m (putM kvs k v))))) else .bad|_=>.bad:=id rfl
@[simp] theorem aI4(i j:Int):bP (.int i) (.int j)=.ok (.int (i+j)):=id rfl
@[simp] theorem aI5(i j:Int):dSub (.int i) (.int j)=.ok (.int (i - j)):=id rfl
@[simp] theorem aIF(i j:Int):aFO (.int i) (.int j)=.ok (.int (i+j)):=id rfl
@[simp] theorem aI6(i:Int):dNeg (.int i)=.ok (.int (-i)):=id rfl
@[simp] theorem aJR(i j:Int):dLt (.int i) (.int j)=.ok (.bool (decide (i < j))):=id rfl
@[simp] theorem aJS(i j:Int):dLe (.int i) (.int j)=.ok (.bool (decide (i<=j))):=id rfl
@[simp] theorem aJT(i j:Int):dGt (.int i) (.int j)=.ok (.bool (decide (j < i))):=id rfl
@[simp] theorem aJU(i j:Int):dGe (.int i) (.int j)=.ok (.bool (decide (j<=i))):=id rfl
theorem cH{i j:Int}(h:0 < j):dMod (.int i) (.int j)=.ok (.int (i % j)):=if_pos h
theorem dP{i j:Int}(h:0 < j)(h2:j < 18446744073709551616):dDiv (.int i) (.int j)=.ok (.int (i / j)):=if_pos ⟨h,h2⟩
theorem rJ{i j:Int}(h : -18446744073709551616 < j)(h2:j < 18446744073709551616):dMul (.int i) (.int j)=.ok (.int (i * j)):=if_pos (.inr ⟨h,h2⟩)
theorem wY{i j:Int}(h : -18446744073709551616 < i)(h2:i < 18446744073709551616):dMul (.int i) (.int j)=.ok (.int (i * j)):=if_pos (.inl ⟨h,h2⟩)
@[simp] theorem iT(xs:List PyData):dLen (.list xs)=.ok (.int xs.length):=id rfl
@[simp] theorem iU(xs:List PyData):dLen (.tuple xs)=.ok (.int xs.length):=id rfl
@[simp] theorem aEH(xs:List PyData):dTup (.list xs)=.ok (.tuple xs):=id rfl
@[simp] theorem aI7(xs:List PyData):dTup (.tuple xs)=.ok (.tuple xs):=id rfl
@[simp] theorem aI8(xs:List PyData):dLst (.list xs)=.ok xs:=id rfl
@[simp] theorem aI9(xs:List PyData):dLst (.tuple xs)=.ok xs:=id rfl
@[simp] theorem aJA(i:Int):aDY (.int i)=.ok (.int i):=id rfl
@[simp] theorem aJB(b:Bool):aDY (.bool b)=.ok (.int (if b=true then 1 else 0)):=id rfl
@[simp] theorem aJV(x:PyData):dIs x .none=.ok (.bool (gH x)):=id rfl
@[simp] theorem aIG(x:PyData):aFN x .none=.ok (.bool (!gH x)):=id rfl
@[simp] theorem aIH:gH .none=true:=id rfl
@[simp] theorem aII(xs:List PyData):gH (.tuple xs)=false:=id rfl
@[simp] theorem aIJ(i:Int):gH (.int i)=false:=id rfl
@[simp] theorem aIK(i:Str):gH (.str i)=false:=id rfl
theorem aCG{α:Type}{xs:List α}{i:Int}{v:α}(h0:0<=i)(h:xs[i.toNat]? = some v):atI xs i=some v:=by
 obtain ⟨j,rfl⟩:∃ j:Nat,i=j:=⟨i.toNat,by omega⟩
 exact eF (j:=j) h
theorem rK{α:Type}(x:α)(t:List α):atI (x::t) 0=some x:=eF (j:=0) rfl
theorem tK{α:Type}(x y:α)(t:List α):atI (x::y::t) 1=some y:=eF (j:=1) rfl
theorem aCH{α:Type}(x y z:α)(t:List α):atI (x::y::z::t) 2=some z:=eF (j:=2) rfl
theorem j8{xs:List PyData}{i:Int}{v:PyData}(h:atI xs i=some v):dIx (.tuple xs) (.int i)=.ok v:=by show (match atI xs i with|some v=>R.ok v|none=>.bad)=_;rw[h]
theorem nQ{xs:List PyData}{i:Int}{v:PyData}(h:atI xs i=some v):dIx (.list xs) (.int i)=.ok v:=by show (match atI xs i with|some v=>R.ok v|none=>.bad)=_;rw[h]
@[simp] theorem aJC(x:PyData)(t:List PyData):dIx (.tuple (x::t)) (.int 0)=.ok x:=j8 (rK x t)
@[simp] theorem aJD(x y:PyData)(t:List PyData):dIx (.tuple (x::y::t)) (.int 1)=.ok y:=j8 (tK x y t)
@[simp] theorem aJE(x y z:PyData)(t:List PyData):dIx (.tuple (x::y::z::t)) (.int 2)=.ok z:=j8 (aCH x y z t)
@[simp] theorem aJF(x:PyData)(t:List PyData):dIx (.list (x::t)) (.int 0)=.ok x:=nQ (rK x t)
@[simp] theorem aJG(x y:PyData)(t:List PyData):dIx (.list (x::y::t)) (.int 1)=.ok y:=nQ (tK x y t)
theorem iV{xs:List PyData}(h:xs.length<=16777216):aY (.tuple xs)=.ok xs:=if_pos h
theorem iW{xs:List PyData}(h:xs.length<=16777216):aY (.list xs)=.ok xs:=if_pos h
theorem rL{x y:PyData}(hx:SeqAt.shaped x=true)(hy:SeqAt.shaped y=true):dEq x y=.ok (.bool (PyData.eqv x y)):=if_pos ⟨hx,hy⟩
theorem rM{x y:PyData}(hx:SeqAt.shaped x=true)(hy:SeqAt.shaped y=true):dNe x y=.ok (.bool (!PyData.eqv x y)):=if_pos ⟨hx,hy⟩
@[simp] theorem aJH(T:String)(i:Int):i4 T (.int i)=.ok (.bool (fY "int" T)):=id rfl
@[simp] theorem aJI(T:String)(i:Str):i4 T (.str i)=.ok (.bool (fY "str" T)):=id rfl
@[simp] theorem aJJ(T:String)(i:List PyData):i4 T (.tuple i)=.ok (.bool (fY "tuple" T)):=id rfl
@[simp] theorem aJK(T:String)(i:List PyData):i4 T (.list i)=.ok (.bool (fY "list" T)):=id rfl
@[simp] theorem aJL(T:String)(i:Bool):i4 T (.bool i)=.ok (.bool (fY "bool" T)):=id rfl
@[simp] theorem aJM(T:String):i4 T .none=.ok (.bool (fY "NoneType" T)):=id rfl
theorem aAW(xs:List PyData)(lo hi:Option Int):dSl (.list xs) lo hi=.ok (.list (eW xs lo hi)):=id rfl
theorem aEI{x y:Str}(h:x.length+y.length<=16777216):bP (.str x) (.str y)=.ok (.str (x++y)):=by
 unfold bP;exact if_pos (by rw[cD];exact h)
theorem fJ{α:Type}{fs:PyData->Sg->Option Sg}{fe:Sg->R PyData}{ρ0:Sg}{d:α->PyData}{g:α->PyData}:∀ {xs:List α},(∀ x∈xs,∃ ρ1,fs (d x) ρ0=some ρ1/\fe ρ1=.ok (g x))->compL fs eM fe ρ0 (xs.map d)=.ok (xs.map g)
 | [],_=>rfl
 | x::t,h=>by
  obtain ⟨ρ1,h1,h2⟩:=h x List.mem_cons_self
  rw[List.map_cons]
  unfold compL
  rw[h1,fJ fun y hy=>h y (List.mem_cons_of_mem _ hy),pC,R.bind_ok,aCF,R.noEx_ok,R.bind_ok,if_pos rfl,h2];rfl
theorem j9{α:Type}{fs:PyData->Sg->Option Sg}{fb:Sg->R Fw}{d:α->PyData}{xs:List α}{ρ:Sg}(J:Nat->Sg->Prop)(h0:J 0 ρ)(hs:∀ (i:Nat) (x:α) (ρ:Sg),xs[i]? = some x->J i ρ->∃ ρ1 ρ2,fs (d x) ρ=some ρ1/\(fb ρ1=.ok (.nx ρ2)\/fb ρ1=.ok (.ct ρ2))/\J (i+1) ρ2) :
  ∃ ρ',eS fs fb (xs.map d) ρ=.ok (.nx ρ')/\J xs.length ρ':=by
 induction xs generalizing ρ J with
 | nil=>exact ⟨ρ,rfl,h0⟩
 | cons x t ih=>
  obtain ⟨ρ1,ρ2,h1,h2,h3⟩:=hs 0 x ρ rfl h0
  obtain ⟨ρ',q1,q2⟩:=ih (ρ:=ρ2) (fun i=>J (i+1)) h3 (fun i y ρ hy hj=>hs (i+1) y ρ (by simpa using hy) hj)
  refine ⟨ρ',?_,q2⟩
  rw[List.map_cons]
  unfold eS
  rw[h1,pC,R.bind_ok]
  rcases h2 with h2|h2<;>rw[h2]<;>exact q1
end Fl
namespace Fl
open PySem L2 PyProof.Rows
theorem wZ{t:Sg->R Bool}{b:Sg->R Fw}{ρ ρ':Sg}(h1:t ρ=.ok true)(h2:b ρ=.ok (.nx ρ')):cA t b ρ=cA t b ρ':=by
 rw[pE,h1,R.bind_ok,if_pos rfl,h2];rfl
theorem w4{t:Sg->R Bool}{b:Sg->R Fw}{ρ:Sg}(h1:t ρ=.ok false):cA t b ρ=.ok (.nx ρ):=by
 rw[pE,h1,R.bind_ok,if_neg (by decide)]
def aJX{α:Type}(d:α->PyData)(ps:List α):List (PyData×PyData):=ps.map fun p=>(d p,.bool true)
end Fl
namespace Mc
open PySem L2 PyProof.Rows Fl
theorem Mach.cons{rs:List Rw}{sg:Nat}(M:Mach rs sg):∃ r t,rs=r::t/\r.c.length=sg:=by
 cases rs with
 | nil=>have:=M.len;simp at this
 | cons r t=>exact ⟨r,t,rfl,(M.row r List.mem_cons_self).2⟩
def ck(k:Nat)(r:Rw):Int×Int:=r.c.getD k (0,0)
theorem k9{n:Nat}(h:n<=16777216):gT 0 (n:Int)=.ok ((List.range n).map fun i:Nat=>.int (i:Int)):=by
 unfold gT
 rw[if_pos (by omega)]
 unfold iM
 simp
end Mc
namespace Mc
open PySem L2 PyProof.Rows Fl
theorem eZ(i:Int):SeqAt.shaped (.int i)=true:=id rfl
theorem w5(i j:Int):PyData.eqv (.int i) (.int j)=decide (i=j):=by
 rw[PyData.eqv.eq_5]
 by_cases h:i=j
 · simp [h]
 · simp [h]
theorem lA(i j:Int):dEq (.int i) (.int j)=.ok (.bool (decide (i=j))):=by rw[rL (eZ i) (eZ j),w5]
end Mc
namespace Mc
open PySem L2 PyProof.Rows Fl
end Mc
namespace Mc
open PySem L2 PyProof.Rows Fl
noncomputable def gK:Sg->R Fw:=(aE (bI 2 (vD (eC (.int 0))))
 (aE (sIf (e1 asB (e2 dGt (e1 dLen (rV 0)) (eC (.int 0)))) (bI 2 (vD (e2 dIx (rV 0) (e2 dMod (rV 1) (e1 dLen (rV 0)))))) sNx)
 (aE (bI 3 (vD (e2 dMod (e2 dMul (e2 bP (e2 bP (e2 dMod (rV 2) (eC (.int 2147483647))) (e2 dMul (eC (.int 7919)) (rV 1))) (eC (.int 1))) (eC (.int 48271))) (eC (.int 2147483647)))))
 (bN (vD (e2 bP (e2 dMul (e2 dDiv (rV 2) (eC (.int 2147483647))) (eC (.int 2147483659))) (e2 dMod (e2 bP (e2 dMul (rV 3) (eC (.int 69621))) (e2 dMul (eC (.int 104729)) (rV 1))) (eC (.int 2147483659)))))))))
noncomputable def bG:List A->R A:=fnF 4 gK
noncomputable def kE:Sg->R Fw:=(aE (cB 5 (dM aL))
 (aE (cB 6 (dM aL))
 (aE (eU (dN (rV 2)) (stN 7) (aE (bI 8 (vD (kT (e2 dLt (e2 bP (rV 1) (rV 7)) (e1 dLen (rV 0))) (e2 dEq (e2 dMod (e2 dIx (rV 0) (eC (.int 0))) (eC (.int 2))) (eC (.int 1))))))
 (aE (bI 9 (vD (e2 dMod (eA (bD 2 bG (aB (vV 0) (aB (vD (e2 bP (rV 1) (rV 7))) aL)))) (eC (.int 2147483647)))))
 (aE (sIf (e1 asB (eV 8)) (bI 9 (vD (e2 dIx (rV 0) (e2 bP (rV 1) (rV 7))))) sNx)
 (aE (cB 10 (dM aL))
 (aE (eU (dN (rV 3)) (stN 11) (aE (sIf (d0 (e1 asB (eV 8))) (bI 9 (vD (e2 dDiv (e2 dMod (e2 bP (e2 dMul (rV 9) (eC (.int 48271))) (eC (.int 7919))) (eC (.int 2147483647))) (eC (.int 64))))) sNx)
 (aE (e8 10 (e2 dMod (rV 9) (rV 2)))
 (bI 9 (vD (e2 dDiv (rV 9) (rV 2)))))))
 (aE (e8 6 (e2 dIx (eL (dM (aB (eC (.str "by")) (aB (eC (.str "out")) (aB (eC (.str "ever")) aL))))) (e2 dMod (rV 9) (rV 4))))
 (e8 5 (e1 dTup (rV 10))))))))))
 (bN (vD (cZ (aB (e1 dTup (rV 5)) (aB (e1 dTup (rV 6)) aL))))))))
noncomputable def g8:List A->R A:=fnF 12 kE
noncomputable def kF:Sg->R Fw:=(aE (nO 3 (nN (eV 2) (eC (.str "")) qZ))
 (aE (cB 4 (dM (aB (eV 2) aL)))
 (aE (bI 5 (vD (eC (.int 0))))
 (aE (cA (e1 asB (e2 dLt (rV 5) (e1 dLen (rV 4)))) (aE (mI (stT [(stN 6),(stN 7)]) (e2 dIx (rV 4) (rV 5)))
 (aE (eU (dN (e1 dLen (e2 dIx (e2 dIx (rV 0) (eC (.int 0))) (rV 6)))) (stN 8) (aE (bI 9 (vD (cZ (aB (e2 dIx (e2 dIx (e2 dIx (rV 0) (eC (.int 0))) (rV 6)) (rV 8)) (aB (e2 dIx (e2 dIx (e2 dIx (rV 1) (eC (.int 0))) (rV 7)) (rV 8)) aL)))))
 (sIf (e1 asB (gB true 3 (eV 9))) (aE (iB 3 (eV 9) (e2 bP (gJ 3 (cZ (aB (eV 6) (aB (eV 7) aL)))) (e2 dIx (eC (.str "abc")) (rV 8))))
 (e8 4 (eV 9))) sNx)))
 (bI 5 (vD (e2 bP (rV 5) (eC (.int 1))))))))
 (i5 3 (bN (vV 3)))))))
noncomputable def eE:List A->R A:=fnF 10 kF
noncomputable def hX:Sg->R Fw:=(aE (nO 3 (nN (eV 2) (eC (.str "")) qZ))
 (aE (cB 4 (dM (aB (eV 2) aL)))
 (aE (bI 5 (vD (eC (.int 0))))
 (aE (cA (e1 asB (e2 dLt (rV 5) (e1 dLen (rV 4)))) (aE (mI (stT [(stN 6),(stN 7)]) (e2 dIx (rV 4) (rV 5)))
 (aE (eU (dN (e1 dLen (e2 dIx (e2 dIx (rV 0) (eC (.int 0))) (rV 6)))) (stN 8) (aE (bI 9 (vD (cZ (aB (e2 dIx (e2 dIx (e2 dIx (rV 0) (eC (.int 0))) (rV 6)) (rV 8)) (aB (e2 dIx (e2 dIx (e2 dIx (rV 1) (eC (.int 0))) (rV 7)) (rV 8)) aL)))))
 (sIf (e1 asB (gB true 3 (eV 9))) (aE (iB 3 (eV 9) (e2 bP (gJ 3 (cZ (aB (eV 6) (aB (eV 7) aL)))) (e2 dIx (eC (.str "abc")) (rV 8))))
 (e8 4 (eV 9))) sNx)))
 (bI 5 (vD (e2 bP (rV 5) (eC (.int 1))))))))
 (i5 3 (bN (vV 3)))))))
noncomputable def fA:List A->R A:=fnF 10 hX
end Mc
namespace Mc
open PySem L2 PyProof.Rows Fl
def fB(ns:List Int):PyData:=.list (ns.map .int)
theorem jE(ns:List Int):dLen (fB ns)=.ok (.int ns.length):=by unfold fB;rw[iT,List.length_map]
theorem rN{ns:List Int}{i:Int}(h0:0<=i)(h1:i < ns.length):∃ v,dIx (fB ns) (.int i)=.ok (.int v):=by
 refine ⟨ns[i.toNat]'(by omega),nQ (aCG h0 ?_)⟩
 rw[List.getElem?_map,List.getElem?_eq_getElem (by omega)];rfl
theorem lB(ns:List Int)(k:Int):∃ v,bG [.d (fB ns),.d (.int k)]=.ok (.d (.int v)):=by
 by_cases h:(0:Int) < ns.length
 ·obtain ⟨v,hv⟩:=rN (ns:=ns) (i:=k % (ns.length:Int)) (Int.emod_nonneg _ (by omega)) (Int.emod_lt_of_pos _ h)
  have hm:dMod (.int k) (.int (ns.length:Int))=.ok (.int (k % (ns.length:Int))):=cH h
  have hd:0 < ns.length:=by omega
  refine ⟨v / 2147483647 * 2147483659+((v % 2147483647+7919 * k+1) * 48271 % 2147483647 * 69621+104729 * k) % 2147483659,?_⟩
  unfold bG gK
  simp[jE,hd,hm,hv,cH,rJ,wY,dP]
 ·have hd:¬ 0 < ns.length:=by omega
  refine ⟨((7919 * k+1) * 48271 % 2147483647 * 69621+104729 * k) % 2147483659,?_⟩
  unfold bG gK
  simp[jE,hd,cH,rJ,wY,dP]
end Mc
namespace Mc
open PySem L2 PyProof.Rows Fl
end Mc
namespace Mc
open PySem L2 PyProof.Rows
def w6(rs:List Rw)(z:List Nat)(s:Int×Int):Option ((Int×Int)⊕Str):=
 match (gO rs z s).1 with
 | .w x=>some (.inr x)
 | .n q=>some (.inl (s.1+(gO rs z s).2,q))
end Mc
namespace Mc
open PySem L2 PyProof.Rows Fl
def kA(rs:List Rw)(z:List Nat)(s:Int×Int):Prop:=aAI rs z s/\((uB rs z s=none/\∃ x,(gO rs z s).1=.w x/\uD (w6 rs z) (0,0)=some x)\/((∃ s',uB rs z s=some s')/\uD (w6 rs z) (0,0)=none))
end Mc
namespace Mc
open PySem L2 PyProof.Rows Fl
theorem w8(x y:Str):PyData.eqv (.str x) (.str y)=(x == y):=by rw[PyData.eqv.eq_6]
end Mc
namespace Mc
open PySem L2 PyProof.Rows
section
variable{S T O Q:Type}
structure Gates(st:S->Option (S⊕O))(sub:S->Option (S⊕Q))(ext:Q->T⊕O)(g:T->S)(ent:T->S⊕O)(Dom:S->Prop)(TV:T->Prop):Prop where
 step:∀ s,Dom s->(∃ s',sub s=some (.inl s')/\st s=some (.inl s')/\Dom s')\/(∃ e t,sub s=some (.inr e)/\ext e=.inl t/\st s=some (.inl (g t))/\TV t)\/∃ e o,sub s=some (.inr e)/\ext e=.inr o/\st s=some (.inr o)
 gate:∀ t,TV t->(∃ s,ent t=.inl s/\st (g t)=some (.inl s)/\Dom s)\/∃ o,ent t=.inr o/\st (g t)=some (.inr o)
variable{st:S->Option (S⊕O)}{sub:S->Option (S⊕Q)}{ext:Q->T⊕O}{g:T->S}{ent:T->S⊕O}{Dom:S->Prop}{TV:T->Prop}
end
def aF6:Str:="ever"
def aF7(rs:List Rw)(z:List Nat)(s:Int×Int):Option ((Int×Int)⊕Tn):=
 match (gO rs z s).1 with
 | .w x=>some (.inr (.w x))
 | .n q=>if s.1+(gO rs z s).2<=(z.length:Int) then some (.inl (s.1+(gO rs z s).2,q)) else some (.inr (.n q))
noncomputable def aEJ(rs:List Rw)(z:List Nat)(s:Int×Int):Tn:=(uD (aF7 rs z) s).getD (.w aF6)
noncomputable def aHQ(rs:List Rw)(z:List Nat)(q:Int):Tn:=aEJ rs z ((z.length:Int),q)
end Mc
namespace Mc
open PySem L2 PyProof.Rows Fl
def aHR(f:Tn)(bk:List Tn):PyData:=.tuple [f.d,.tuple (bk.map Tn.d)]
def aEK(rs:List Rw)(k:Nat):PyData:=.list (rs.map fun r=>aFK (ck k r))
noncomputable def oT:Sg->R Bool:=(d0 (e1 asB (eA (bD 1 pG (aB (vV 2) aL)))))
noncomputable def aAX(rs:List Rw)(z:List Nat):PyData:=aHR (aEJ rs z (0,0)) ((List.range rs.length).map fun q:Nat=>aHQ rs z (q:Int))
end Mc
namespace Mc
open PySem L2 PyProof.Rows Fl
end Mc
namespace Mc
open PySem L2 PyProof.Rows Fl
end Mc
namespace Mc
open PySem L2 PyProof.Rows Fl
theorem w9(i j:Int):dNe (.int i) (.int j)=.ok (.bool (!decide (i=j))):=by rw[rM (eZ i) (eZ j),w5]
end Mc
namespace Mc
open PySem L2 PyProof.Rows Fl
end Mc
namespace Fl
open PySem L2 PyProof.Rows
@[simp] theorem zE(i:Nat)(f:Sg->R (List (PyData×PyData)))(ρ:Sg):nO i f ρ=(f ρ).bind fun kvs=>(c7 [] kvs).bind fun res=>.ok (.nx (ρ.set i (some (.m res)))):=id rfl
@[simp] theorem aCI(ρ:Sg):qZ ρ=.ok []:=id rfl
@[simp] theorem zF(f g:Sg->R PyData)(r:Sg->R (List (PyData×PyData)))(ρ:Sg):nN f g r ρ=(f ρ).bind fun x=>(g ρ).bind fun y=>(r ρ).bind fun t=>.ok ((x,y)::t):=id rfl
@[simp] theorem aGI(i:Nat)(f g:Sg->R PyData)(ρ:Sg):aED i f g ρ=match ρ[i]? with|some (some (.m kvs))=>(f ρ).bind fun k=>(g ρ).bind fun y=>if bM k (kvs.map (·.1))=true then .ok ((cI kvs k).getD y) else .bad|_=>.bad:=id rfl
end Fl
namespace Mc
open PySem L2 PyProof.Rows Fl
end Mc
namespace Mc
open PySem L2 PyProof.Rows Fl
theorem kB{w:Str}(h:w="by"\/w="out"\/w="ever"):SeqAt.shaped (.str w)=true:=by rcases h with rfl|rfl|rfl<;>decide +kernel
theorem aEL{w v:Str}(h:w="by"\/w="out"\/w="ever")(h':v="by"\/v="out"\/v="ever"):dEq (.str w) (.str v)=.ok (.bool (decide (w=v))):=by
 rw[rL (kB h) (kB h'),w8]
 congr 2
end Mc
namespace Mc
open PySem L2 PyProof.Rows Fl
end Mc
namespace Mc
open PySem L2 PyProof.Rows Fl
@[simp] theorem aIL(m i:Nat)(f:Sg->R (List PyData))(ρ:Sg):aHB m i f ρ=match ρ[i]? with|some (some (.g k n G))=>(f ρ).bind fun ds=>if k<=m/\ds.length=n then G ds else .bad|_=>.bad:=id rfl
@[simp] theorem aHS(m i:Nat)(f:Sg->R (List PyData))(ρ:Sg):aFT m i f ρ=match ρ[i]? with|some (some (.g k n G))=>(f ρ).bind fun ds=>if k<=m/\ds.length=n then (match G ds with | .ok d=>if aAT d=true then .ok d else .bad|_=>.bad) else .bad|_=>.bad:=id rfl
structure Srch where
 after:PyData->List PyData
 x0:PyData
 good:Nat->PyData->Prop
 lim:Nat
 k1:Nat
 k2:Nat
 G:List PyData->R PyData
 D:List PyData->R PyData
structure Srch.ok(S:Srch):Prop where
 g0:S.good 0 S.x0
 gs:∀ i x,S.good i x->i<=S.lim->∀ y∈S.after x,S.good (i+1) y
 up:∀ i j x,i<=j->S.good i x->S.good j x
 few:∀ xs:List PyData,xs.Nodup->(∀ x∈xs,∃ i,S.good i x)->xs.length<=S.lim
 key:∀ i x,S.good i x->f8 x=true
 hk1:S.k1<=12
 hk2:S.k2<=12
 hG:∀ i x,i<=S.lim->S.good i x->S.G [x]=.ok (.list (S.after x))/\(S.after x).length<=16777216
 hD:∀ (fs:List PyData) (i:Int),fs.length<=S.lim->S.D [.list fs,.int i]=.ok (.bool false)
 hl:S.lim<=16000000
def aF8(fs:List PyData)(js:List Nat)(ys:List PyData):Prop:=js.length=ys.length/\∀ (c:Nat) (y:PyData),ys[c]? = some y->∃ j,js[c]? = some j/\fs[j]? = some y
def bE(js:List Nat):PyData:=.tuple (js.map fun j:Nat=>.int (j:Int))
structure Fnd(S:Srch)(fs:List PyData):Prop where
 nd:fs.Nodup
 gd:∀ (i:Nat) (x:PyData),fs[i]? = some x->S.good i x
theorem Fnd.len{S:Srch}(O:S.ok){fs:List PyData}(h:Fnd S fs):fs.length<=S.lim:=O.few fs h.nd fun x hx=>by
 obtain ⟨i,hi⟩:=List.getElem?_of_mem hx
 exact ⟨i,h.gd i x hi⟩
structure Rchd(S:Srch)(fs:List PyData)(gs:List (List Nat)):Prop where
 fnd:Fnd S fs
 len:gs.length=fs.length
 zer:fs[0]? = some S.x0
 row:∀ (i:Nat) (js:List Nat) (x:PyData),gs[i]? = some js->fs[i]? = some x->aF8 fs js (S.after x)
end Mc
namespace Mc
open PySem L2 PyProof.Rows Fl
noncomputable def adQ(fs:List PyData)(y:PyData):List PyData:=if y∈fs then fs else fs++[y]
noncomputable def adA(fs ys:List PyData):List PyData:=ys.foldl adQ fs
theorem xA{fs:List PyData}{y:PyData}(h:y∈fs):adQ fs y=fs:=if_pos h
theorem tL{fs:List PyData}{y:PyData}(h:y∉fs):adQ fs y=fs++[y]:=if_neg h
theorem aEM{fs:List PyData}{y:PyData}(h:fs.Nodup):(adQ fs y).Nodup:=by
 by_cases q:y∈fs
 ·rw[xA q];exact h
 ·rw[tL q,List.nodup_append]
  exact ⟨h,by simp,fun a ha b hb=>by rw[List.mem_singleton.mp hb];rintro rfl;exact q ha⟩
theorem aEN(ys:List PyData):∀ {fs:List PyData},fs.Nodup->(adA fs ys).Nodup:=by
 induction ys with
 | nil=>exact fun h=>h
 | cons y t ih=>exact fun h=>ih (aEM h)
theorem adA_mem(ys:List PyData):∀ {fs:List PyData} {y:PyData},y∈adA fs ys->y∈fs\/y∈ys:=by
 induction ys with
 | nil=>intro fs y h;exact .inl h
 | cons x t ih=>
  intro fs y h
  rcases ih (fs:=adQ fs x) h with h|h
  ·by_cases q:x∈fs
   ·rw[xA q] at h;exact .inl h
   ·rw[tL q] at h
    rcases List.mem_append.mp h with h|h
    · exact .inl h
    · exact .inr (by rw [List.mem_singleton.mp h]; exact List.mem_cons_self)
  ·exact .inr (List.mem_cons_of_mem _ h)
structure Sq where
 after:PyData->List PyData
 x0:PyData
 stop:List PyData->Nat->Bool
 k1:Nat
 k2:Nat
 G:List PyData->R PyData
 D:List PyData->R PyData
noncomputable def bfQ(after:PyData->List PyData)(x0:PyData):Nat->List PyData
 | 0=>[x0]
 | n+1=>match (bfQ after x0 n)[n]? with
  | some x=>adA (bfQ after x0 n) (after x)
  | none=>bfQ after x0 n
theorem xB(after:PyData->List PyData)(x0:PyData)(n:Nat):(bfQ after x0 n).Nodup:=by
 induction n with
 | zero=>simp[bfQ]
 | succ n ih=>
  rw[bfQ]
  split
  · exact aEN _ ih
  · exact ih
theorem zG{α:Type}{f g:List α}{i:Nat}{x:α}(h:f <+: g)(e:f[i]? = some x):g[i]? = some x:=by
 obtain ⟨t,rfl⟩:=h
 rw[List.getElem?_append_left (List.getElem?_eq_some_iff.mp e).1]
 exact e
structure Sq.ok(S:Sq)(N:Nat):Prop where
 on:∀ m,m < N->m < (bfQ S.after S.x0 m).length/\S.stop (bfQ S.after S.x0 m) m=false
 off:(bfQ S.after S.x0 N).length<=N\/S.stop (bfQ S.after S.x0 N) N=true
 key:(∀ x∈bfQ S.after S.x0 N,f8 x=true)\/(∀ x∈bfQ S.after S.x0 N,jR x=true)
 len:(bfQ S.after S.x0 N).length<=16000000
 hk1:S.k1<=12
 hk2:S.k2<=12
 hG:∀ m x,m < N->(bfQ S.after S.x0 N)[m]? = some x->(∃ d,S.G [x]=.ok d/\aY d=.ok (S.after x))/\(S.after x).length<=1000
 hD:∀ m,m<=N->m < (bfQ S.after S.x0 m).length->S.D [.list (bfQ S.after S.x0 m),.int (m:Int)]=.ok (.bool (S.stop (bfQ S.after S.x0 m) m))
end Mc
namespace Fl
open PySem L2 PyProof.Rows
@[simp] theorem aHT(i:Nat)(f g:Sg->R PyData)(ρ:Sg):aFW i f g ρ=match ρ[i]? with
 | some (some (.m kvs))=>(f ρ).bind fun k=>(g ρ).bind fun y=>if bM k (kvs.map (·.1))=true/\kvs.length<=16777216 then .ok (.nx (if cF kvs k=true then ρ else ρ.set i (some (.m (putM kvs k y))))) else .bad
 | _=>.bad:=id rfl
@[simp] theorem aIM(i:Nat)(ρ:Sg):aHD i ρ=match ρ[i]? with
 | some (some (.l xs))=>.ok (.nx (ρ.set i (some (.l xs.reverse))))
 | _=>.bad:=id rfl
theorem zI{x:PyData}{xs:List PyData}(h:aY x=.ok xs):j5 x=.ok (xs.zipIdx.map y7):=by
 unfold j5;rw[h];rfl
end Fl
namespace Mc
open PySem L2 PyProof.Rows Fl
mutual
def nbD:PyData->Bool
 | .bool _=>false
 | .dict _=>false
 | .list xs=>kC xs
 | .tuple xs=>kC xs
 | _=>true
def kC:List PyData->Bool
 | []=>true
 | x::t=>nbD x && kC t
end
theorem tM:∀ {xs:List PyData},(∀ x∈xs,nbD x=true)->kC xs=true
 | [],_=>rfl
 | x::t,h=>by
  show (nbD x && kC t)=true
  rw[h x List.mem_cons_self,tM fun y hy=>h y (List.mem_cons_of_mem _ hy)];rfl
mutual
theorem nR:∀ d:PyData,d.canLay0=true->d.eqv d=true
 | .none,_=>by rfl
 | .bool b,_=>by simp[PyData.eqv]
 | .int i,_=>by simp[PyData.eqv]
 | .str x,_=>by simp[PyData.eqv]
 | .list xs,h=>by
  show PyData.eqvAll xs xs=true
  exact oI xs h
 | .tuple xs,h=>by
  show PyData.eqvAll xs xs=true
  exact oI xs h
 | .dict _,h=>by cases h
theorem oI:∀ xs:List PyData,PyData.canLayAll0 xs=true->PyData.eqvAll xs xs=true
 | [],_=>by rfl
 | x::t,h=>by
  have h':(x.canLay0 && PyData.canLayAll0 t)=true:=h
  rw[Bool.and_eq_true] at h'
  show (x.eqv x && PyData.eqvAll t t)=true
  rw[nR x h'.1,oI t h'.2];rfl
end
mutual
theorem xC:∀ x y:PyData,nbD x=true->nbD y=true->x.eqv y=true->x=y
 | .none,.none,_,_,_=>rfl
 | .int i,.int j,_,_,h=>by simp[PyData.eqv] at h;rw[h]
 | .str i,.str j,_,_,h=>by simp[PyData.eqv] at h;rw[h]
 | .list xs,.list ys,h1,h2,h=>by rw[oJ xs ys h1 h2 h]
 | .tuple xs,.tuple ys,h1,h2,h=>by rw[oJ xs ys h1 h2 h]
 | .bool _,_,h,_,_=>by cases h
 | .dict _,_,h,_,_=>by cases h
 | _,.bool _,_,h,_=>by cases h
 | _,.dict _,_,h,_=>by cases h
 | .none,.int _,_,_,h=>by simp[PyData.eqv] at h
 | .none,.str _,_,_,h=>by simp[PyData.eqv] at h
 | .none,.list _,_,_,h=>by simp[PyData.eqv] at h
 | .none,.tuple _,_,_,h=>by simp[PyData.eqv] at h
 | .int _,.none,_,_,h=>by simp[PyData.eqv] at h
 | .int _,.str _,_,_,h=>by simp[PyData.eqv] at h
 | .int _,.list _,_,_,h=>by simp[PyData.eqv] at h
 | .int _,.tuple _,_,_,h=>by simp[PyData.eqv] at h
 | .str _,.none,_,_,h=>by simp[PyData.eqv] at h
 | .str _,.int _,_,_,h=>by simp[PyData.eqv] at h
 | .str _,.list _,_,_,h=>by simp[PyData.eqv] at h
 | .str _,.tuple _,_,_,h=>by simp[PyData.eqv] at h
 | .list _,.none,_,_,h=>by simp[PyData.eqv] at h
 | .list _,.int _,_,_,h=>by simp[PyData.eqv] at h
 | .list _,.str _,_,_,h=>by simp[PyData.eqv] at h
 | .list _,.tuple _,_,_,h=>by simp[PyData.eqv] at h
 | .tuple _,.none,_,_,h=>by simp[PyData.eqv] at h
 | .tuple _,.int _,_,_,h=>by simp[PyData.eqv] at h
 | .tuple _,.str _,_,_,h=>by simp[PyData.eqv] at h
 | .tuple _,.list _,_,_,h=>by simp[PyData.eqv] at h
theorem oJ:∀ xs ys:List PyData,kC xs=true->kC ys=true->PyData.eqvAll xs ys=true->xs=ys
 | [],[],_,_,_=>rfl
 | [],_::_,_,_,h=>by simp[PyData.eqvAll] at h
 | _::_,[],_,_,h=>by simp[PyData.eqvAll] at h
 | x::xs,y::ys,h1,h2,h=>by
  have h1':(nbD x && kC xs)=true:=h1
  have h2':(nbD y && kC ys)=true:=h2
  have h':(x.eqv y && PyData.eqvAll xs ys)=true:=h
  rw[Bool.and_eq_true] at h1' h2' h'
  rw[xC x y h1'.1 h2'.1 h'.1,oJ xs ys h1'.2 h2'.2 h'.2]
end
theorem rO{d:PyData}(h:SeqAt.shaped d=true):d.canLay0=true:=by
 have h':(d.canLay0 && decide (d.depth<=64))=true:=h
 rw[Bool.and_eq_true] at h'
 exact h'.1
theorem xD{x y:PyData}(hx:nbD x=true)(hy:nbD y=true)(l:SeqAt.shaped x=true):x.eqv y=decide (x=y):=by
 by_cases h:x=y
 ·subst h;rw[nR x (rO l),decide_eq_true rfl]
 ·rw[decide_eq_false h]
  cases q:x.eqv y with
  | false=>rfl
  | true=>exact absurd (xC x y hx hy q) h
structure Cp(d:PyData):Prop where
 nb:nbD d=true
 sh:SeqAt.shaped d=true
theorem xE{x:PyData}(h:SeqAt.shaped x=true):dEq x x=.ok (.bool true):=by rw[rL h h,nR x (rO h)]
theorem xF{x:PyData}(h:SeqAt.shaped x=true):dNe x x=.ok (.bool false):=by rw[rM h h,nR x (rO h)];rfl
end Mc
namespace Mc
open PySem L2 PyProof.Rows Fl
end Mc
namespace Mc
open PySem L2 PyProof.Rows Fl
noncomputable def aHU(rs:List Rw)(x:PyData)(k:Nat):PyData:=match zD [.d x,.d (aEK rs k)] with
 | .ok (.d y)=>y
 | _=>.none
end Mc
namespace Mc
open PySem L2 PyProof.Rows Fl
def tc(m:Nat):Tn->Nat
 | .n i=>i.toNat
 | .w x=>if x="by" then m else if x="out" then m+1 else m+2
structure Ctr(rs:List Rw)(sg p q:Nat):Prop where
 len:rs.length=p+1+q
 p1:1<=p
 p5:p<=5
 q1:1<=q
 q5:q<=5
 lef:(h7 rs 0).l=.n 0
 mid:(h7 rs (p:Int)).l=.n ((p:Int)+1)
 a:∀ i:Nat,i < p->∀ k,k < sg->ck k (h7 rs (i:Int))=((((i+(if k=0 then 1 else 0)) % p:Nat):Int),1)
 b:∀ k,k < sg->ck k (h7 rs (p:Int))=((p:Int),-1)
 c:∀ j:Nat,j < q->∀ k,k < sg->ck k (h7 rs ((p+1+j:Nat):Int))=(((p+1+(j+(if k=sg - 1 then 1 else 0)) % q:Nat):Int),1)
end Mc
namespace Mb
open Classical
section
variable{τ:Type}(g:τ->Nat->τ)(t0:τ)(cs:List Nat)
variable{g t0 cs}
end
end Mb
namespace Mc
open PySem L2 PyProof.Rows Fl
def stD(z:List Nat):PyData:=.str ⟨z.toArray⟩
end Mc
namespace Mc
open PySem L2 PyProof.Rows Fl
abbrev PZ:=PyData×List Nat
noncomputable def adP(z:List Nat)(l:List PZ)(y:PyData×Nat):List PZ:=if y.1∈l.map (·.1) then l else l++[(y.1,z++[97+y.2])]
noncomputable def bfP(after:PyData->List PyData)(x0:PyData):Nat->List PZ
 | 0=>[(x0,[])]
 | n+1=>match (bfP after x0 n)[n]? with
  | some p=>(after p.1).zipIdx.foldl (adP p.2) (bfP after x0 n)
  | none=>bfP after x0 n
theorem aCJ(z:List Nat)(l:List PZ)(y:PyData×Nat):(adP z l y).map (·.1)=adQ (l.map (·.1)) y.1:=by
 unfold adP adQ
 split
 · rfl
 · rw [List.map_append]; rfl
theorem tN(z:List Nat)(l:List PZ)(y:PyData×Nat):l <+: adP z l y:=by
 unfold adP
 split
 · exact List.prefix_refl _
 · exact List.prefix_append ..
theorem zJ(z:List Nat)(ys:List (PyData×Nat)):∀ l:List PZ,(ys.foldl (adP z) l).map (·.1)=adA (l.map (·.1)) (ys.map (·.1)):=by
 induction ys with
 | nil=>intro l;rfl
 | cons y t ih=>intro l;rw[List.foldl_cons,ih,aCJ];rfl
theorem mM(z:List Nat)(ys:List (PyData×Nat)):∀ l:List PZ,l <+: ys.foldl (adP z) l:=by
 induction ys with
 | nil=>exact fun l=>List.prefix_refl _
 | cons y t ih=>exact fun l=>(tN z l y).trans (ih _)
theorem jF(after:PyData->List PyData)(x0:PyData)(n:Nat):(bfP after x0 n).map (·.1)=bfQ after x0 n:=by
 induction n with
 | zero=>rfl
 | succ n ih=>
  have e:(bfQ after x0 n)[n]? = ((bfP after x0 n)[n]?).map (·.1):=by rw[<-ih,List.getElem?_map]
  cases q:(bfP after x0 n)[n]? with
  | none=>rw[q] at e;rw[bfP,bfQ,q,e];exact ih
  | some p=>
   rw[q] at e
   rw[bfP,bfQ,q,e]
   simp only[Option.map_some]
   rw[zJ,ih]
   congr 1
   exact List.zipIdx_map_fst 0 _
theorem zK(after:PyData->List PyData)(x0:PyData)(n:Nat):bfP after x0 n <+: bfP after x0 (n+1):=by
 rw[bfP]
 split
 · exact mM _ _ _
 · exact List.prefix_refl _
theorem aCK{after:PyData->List PyData}{x0:PyData}{m n:Nat}(h:m<=n):bfP after x0 m <+: bfP after x0 n:=by
 obtain ⟨k,rfl⟩:=Nat.le.dest h
 clear h
 induction k with
 | zero=>exact List.prefix_refl _
 | succ k ih=>exact ih.trans (zK after x0 (m+k))
theorem zL(after:PyData->List PyData)(x0:PyData)(n:Nat):(bfP after x0 n)[0]? = some (x0,[]):=by
 obtain ⟨t,e⟩:=aCK (after:=after) (x0:=x0) (Nat.zero_le n)
 rw[<-e];rfl
theorem fQ(after:PyData->List PyData)(x0:PyData)(n:Nat):(bfP after x0 n).length=(bfQ after x0 n).length:=by rw[<-jF,List.length_map]
theorem zM{after:PyData->List PyData}{x0:PyData}{n:Nat}{p:PZ}(h:(bfP after x0 n)[n]? = some p):bfP after x0 (n+1)=(after p.1).zipIdx.foldl (adP p.2) (bfP after x0 n):=by rw[bfP,h]
theorem zN{kvs:List (PyData×PyData)}{k v k':PyData}(h:cF kvs k=false):cI (putM kvs k v) k'=if k'=k then some v else cI kvs k':=by
 have h':cI kvs k=none:=by
  unfold cF at h
  cases q:cI kvs k with
  | none=>rfl
  | some x=>rw[q] at h;cases h
 unfold putM
 rw[h,if_neg (by decide)]
 unfold cI at h' ⊢
 rw[List.find?_append]
 by_cases e:k'=k
 ·subst e
  have:kvs.find? (fun p=>decide (p.1=k'))=none:=by
   cases q:kvs.find? (fun p=>decide (p.1=k')) with
   | none=>rfl
   | some x=>rw[q] at h';cases h'
  rw[if_pos rfl,this]
  simp
 ·rw[if_neg e]
  cases q:kvs.find? (fun p=>decide (p.1=k')) with
  | none=>simp[Ne.symm e]
  | some x=>rfl
structure Came(L:List PZ)(D:List (PyData×PyData))(m:Nat):Prop where
 got:∀ (j:Nat) (x:PyData) (z:List Nat),1<=j->j < m->L[j]? = some (x,z)->∃ (i k:Nat) (x':PyData) (z':List Nat),cI D (.int (j:Int))=some (.tuple [.int (i:Int),.str ⟨#[97+k]⟩])/\L[i]? = some (x',z')/\i < j/\z=z'++[97+k]
 new:∀ j:Nat,m<=j->cF D (.int (j:Int))=false
 key:∀ p∈D.map (·.1),jR p=true
theorem Came.same{L:List PZ}{D:List (PyData×PyData)}{m:Nat}(C:Came L D m)(j:Int):bM (.int j) (D.map (·.1))=true:=by
 unfold bM
 rw[Bool.or_eq_true,Bool.and_eq_true,Bool.and_eq_true]
 exact .inr ⟨rfl,List.all_eq_true.mpr C.key⟩
end Mc
namespace Mc
open PySem L2 PyProof.Rows Fl
section
variable{after:PyData->List PyData}{x0:PyData}
theorem zO{n:Nat}(h:(bfQ after x0 n).length<=n):bfP after x0 (n+1)=bfP after x0 n:=by
 have:(bfP after x0 n)[n]? = none:=List.getElem?_eq_none (by rw[fQ];exact h)
 rw[bfP,this]
theorem rP{m:Nat}(h:(bfQ after x0 m).length<=m):∀ k,bfP after x0 (m+k)=bfP after x0 m
 | 0=>rfl
 | k+1=>by
  have ih:=rP h k
  have:(bfQ after x0 (m+k)).length<=m+k:=by rw[<-fQ,ih,fQ];omega
  rw[<-Nat.add_assoc,zO this,ih]
theorem aEO(n:Nat):((bfP after x0 n).map (·.1)).Nodup:=by rw[jF];exact xB after x0 n
structure Fto(after:PyData->List PyData)(x0:PyData)(wn:PyData->Bool)(k1 k2:Nat)(G Wn:List PyData->R PyData)(N:Nat):Prop where
 on:∀ m,m < N->m < (bfQ after x0 m).length/\∀ x,(bfQ after x0 m)[m]? = some x->wn x=false
 off:(bfQ after x0 N).length<=N\/∃ x,(bfQ after x0 N)[N]? = some x/\wn x=true
 key:(∀ x∈bfQ after x0 N,f8 x=true)\/(∀ x∈bfQ after x0 N,jR x=true)
 len:(bfQ after x0 N).length<=100000
 hN:N<=100000
 hk1:k1<=12
 hk2:k2<=11
 hG:∀ m x,m < N->(bfQ after x0 N)[m]? = some x->(∃ d,G [x]=.ok d/\aY d=.ok (after x))/\(after x).length<=3
 hW:∀ m x,m<=N->(bfQ after x0 N)[m]? = some x->Wn [x]=.ok (.bool (wn x))
end
def rdD(rows:List (List Nat))(ws:List PyData):PyData:=.tuple [.tuple (rows.map bE),.tuple ws]
structure Rdr(rows:List (List Nat))(sg:Nat):Prop where
 n1:1<=rows.length
 n2:rows.length<=1000
 s1:1<=sg
 s3:sg<=3
 row:∀ r∈rows,r.length=sg/\∀ j∈r,j < rows.length
section
variable{rows:List (List Nat)}{sg:Nat}
theorem Rdr.at(M:Rdr rows sg){q:Nat}(hq:q < rows.length):rows[q]? = some (rows.getD q [])/\(rows.getD q []).length=sg/\∀ j∈rows.getD q [],j < rows.length:=by
 have e:rows[q]? = some (rows.getD q []):=by rw[List.getD_eq_getElem?_getD,List.getElem?_eq_getElem hq];rfl
 exact ⟨e,M.row _ (List.mem_of_getElem? e)⟩
theorem dH{ws:List PyData}(M:Rdr rows sg){q:Nat}(hq:q < rows.length):dIx (.tuple (rows.map bE)) (.int (q:Int))=.ok (bE (rows.getD q [])):=j8 (eF (by rw[List.getElem?_map,(M.at hq).1];rfl))
end
end Mc
namespace Mc
open PySem L2 PyProof.Rows Fl
def sl(y z:List Nat):Prop:=y.length < z.length\/(y.length=z.length/\List.Lex (· < ·) y z)
section
variable{after:PyData->List PyData}{x0:PyData}
structure FtoC(after:PyData->List PyData)(x0:PyData)(wn:PyData->Bool)(k1 k2:Nat)(G Wn:List PyData->R PyData)(M:Nat):Prop where
 cl:(bfQ after x0 M).length<=M
 hM:M<=100000
 key:(∀ x∈bfQ after x0 M,f8 x=true)\/(∀ x∈bfQ after x0 M,jR x=true)
 hk1:k1<=12
 hk2:k2<=11
 hG:∀ x∈bfQ after x0 M,(∃ d,G [x]=.ok d/\aY d=.ok (after x))/\(after x).length<=3
 hW:∀ x∈bfQ after x0 M,Wn [x]=.ok (.bool (wn x))
end
end Mc
namespace Mc
open PySem L2 PyProof.Rows Fl
def prN(a b:Nat):PyData:=.tuple [.int (a:Int),.int (b:Int)]
noncomputable def afP(r1 r2:List (List Nat)):PyData->List PyData
 | .tuple [.int a,.int b]=>((r1.getD a.toNat []).zip (r2.getD b.toNat [])).map fun p=>prN p.1 p.2
 | _=>[]
theorem iZ(r1 r2:List (List Nat))(a b:Nat):afP r1 r2 (prN a b)=((r1.getD a []).zip (r2.getD b [])).map fun p=>prN p.1 p.2:=by
 show ((r1.getD ((a:Int)).toNat []).zip (r2.getD ((b:Int)).toNat [])).map _=_
 rw[show ((a:Int)).toNat=a by omega,show ((b:Int)).toNat=b by omega]
noncomputable def wnP(w1 w2:List Str):PyData->Bool
 | .tuple [.int a,.int b]=>decide (w1.getD a.toNat ""≠w2.getD b.toNat "")
 | _=>false
theorem aAY(w1 w2:List Str)(a b:Nat):wnP w1 w2 (prN a b)=decide (w1.getD a ""≠w2.getD b ""):=by
 show decide (w1.getD ((a:Int)).toNat ""≠w2.getD ((b:Int)).toNat "")=_
 rw[show ((a:Int)).toNat=a by omega,show ((b:Int)).toNat=b by omega]
def rQ(w:Str):Prop:=w="by"\/w="out"\/w="ever"
structure Rdw(rows:List (List Nat))(ws:List Str)(sg:Nat):Prop where
 r:Rdr rows sg
 wl:ws.length=rows.length
 ww:∀ w∈ws,rQ w
noncomputable def rdW(rows:List (List Nat))(ws:List Str):PyData:=rdD rows (ws.map .str)
section
variable{r1 r2:List (List Nat)}{w1 w2:List Str}{sg:Nat}
theorem Rdw.w(M:Rdw r1 w1 sg){q:Nat}(hq:q < r1.length):rQ (w1.getD q "")/\dIx (.tuple (w1.map .str)) (.int (q:Int))=.ok (.str (w1.getD q "")):=by
 have hl:=M.wl
 have e:w1[q]? = some (w1.getD q ""):=by rw[List.getD_eq_getElem?_getD,List.getElem?_eq_getElem (by omega)];rfl
 refine ⟨M.ww _ (List.mem_of_getElem? e),j8 (eF ?_)⟩
 rw[List.getElem?_map,e];rfl
theorem lU(M1:Rdr r1 sg)(M2:Rdr r2 sg){a b:Nat}(ha:a < r1.length)(hb:b < r2.length){n:Nat}:∀ {x:PyData},x∈bfQ (afP r1 r2) (prN a b) n->∃ c d:Nat,c < r1.length/\d < r2.length/\x=prN c d:=by
 induction n with
 | zero=>intro x hx;rw[List.mem_singleton.mp hx];exact ⟨a,b,ha,hb,rfl⟩
 | succ n ih=>
  intro x hx
  rw[bfQ] at hx
  split at hx
  ·rename_i y hy
   rcases adA_mem _ hx with h|h
   ·exact ih h
   ·obtain ⟨c,d,hc,hd,rfl⟩:=ih (List.mem_of_getElem? hy)
    rw[iZ] at h
    obtain ⟨p,hp,rfl⟩:=List.mem_map.mp h
    have:=List.of_mem_zip (a:=p.1) (b:=p.2) hp
    exact ⟨p.1,p.2,(M1.at hc).2.2 _ this.1,(M2.at hd).2.2 _ this.2,rfl⟩
  ·exact ih hx
theorem aCL{n m:Nat}{xs:List PyData}(nd:xs.Nodup)(h:∀ x∈xs,∃ c d:Nat,c < n/\d < m/\x=prN c d):xs.length<=n * m:=by
 refine vY (fun x=>match x with | .tuple [.int a,.int b]=>a.toNat * m+b.toNat|_=>0) (n * m) xs nd (fun x hx=>?_) (fun x hx y hy e=>?_)
 ·obtain ⟨c,d,hc,hd,rfl⟩:=h x hx
  show ((c:Int)).toNat * m+((d:Int)).toNat < n * m
  rw[show ((c:Int)).toNat=c by omega,show ((d:Int)).toNat=d by omega]
  calc c * m+d < c * m+m:=by omega
   _=(c+1) * m:=by rw[Nat.succ_mul]
   _<=n * m:=Nat.mul_le_mul_right _ hc
 ·obtain ⟨c,d,hc,hd,rfl⟩:=h x hx
  obtain ⟨c',d',hc',hd',rfl⟩:=h y hy
  have e:((c:Int)).toNat * m+((d:Int)).toNat=((c':Int)).toNat * m+((d':Int)).toNat:=e
  rw[show ((c:Int)).toNat=c by omega,show ((d:Int)).toNat=d by omega,show ((c':Int)).toNat=c' by omega,show ((d':Int)).toNat=d' by omega] at e
  have h1:(c * m+d) % m=d:=by rw[Nat.add_comm,Nat.add_mul_mod_self_right,Nat.mod_eq_of_lt hd]
  have h2:(c' * m+d') % m=d':=by rw[Nat.add_comm,Nat.add_mul_mod_self_right,Nat.mod_eq_of_lt hd']
  have h3:d=d':=by rw[<-h1,e,h2]
  subst h3
  have h4:c * m=c' * m:=by omega
  rw[Nat.eq_of_mul_eq_mul_right (by omega) h4]
theorem oK(M1:Rdr r1 sg)(M2:Rdr r2 sg){a b:Nat}(ha:a < r1.length)(hb:b < r2.length)(n:Nat):(bfQ (afP r1 r2) (prN a b) n).length<=r1.length * r2.length:=
 aCL (xB _ _ n) fun x hx=>lU M1 M2 ha hb hx
theorem aF9(M1:Rdw r1 w1 sg)(M2:Rdw r2 w2 sg){a b:Nat}(ha:a < r1.length)(hb:b < r2.length) :
  dX [.d (rdW r1 w1),.d (rdW r2 w2),.d (prN a b)]=.ok (.d (.list (afP r1 r2 (prN a b)))):=by
 have i0:dIx (rdW r1 w1) (.int 0)=.ok (.tuple (r1.map bE)):=rfl
 have j0:dIx (rdW r2 w2) (.int 0)=.ok (.tuple (r2.map bE)):=rfl
 have p0:dIx (prN a b) (.int 0)=.ok (.int (a:Int)):=rfl
 have p1:dIx (prN a b) (.int 1)=.ok (.int (b:Int)):=rfl
 have i1:=dH (ws:=w1.map .str) M1.r ha
 have j1:=dH (ws:=w2.map .str) M2.r hb
 have s3:=M1.r.s3
 have la:=(M1.r.at ha).2.1
 have lb:=(M2.r.at hb).2.1
 have d1:aY (bE (r1.getD a []))=.ok ((r1.getD a []).map fun j:Nat=>.int (j:Int)):=iV (by rw[List.length_map];omega)
 have d2:aY (bE (r2.getD b []))=.ok ((r2.getD b []).map fun j:Nat=>.int (j:Int)):=iV (by rw[List.length_map];omega)
 have hz:iR (bE (r1.getD a [])) (bE (r2.getD b []))=.ok (afP r1 r2 (prN a b)):=by
  unfold iR
  rw[d1,d2]
  show R.ok _=R.ok _
  rw[iZ,List.zip_map,List.map_map]
  rfl
 unfold dX iS
 simp[-List.getD_eq_getElem?_getD,i0,j0,p0,p1,i1,j1,hz]
theorem aGA(M1:Rdw r1 w1 sg)(M2:Rdw r2 w2 sg){a b:Nat}(ha:a < r1.length)(hb:b < r2.length) :
  eG [.d (rdW r1 w1),.d (rdW r2 w2),.d (prN a b)]=.ok (.d (.bool (!wnP w1 w2 (prN a b)))):=by
 have i0:dIx (rdW r1 w1) (.int 1)=.ok (.tuple (w1.map .str)):=rfl
 have j0:dIx (rdW r2 w2) (.int 1)=.ok (.tuple (w2.map .str)):=rfl
 have p0:dIx (prN a b) (.int 0)=.ok (.int (a:Int)):=rfl
 have p1:dIx (prN a b) (.int 1)=.ok (.int (b:Int)):=rfl
 obtain ⟨g1,i1⟩:=M1.w ha
 obtain ⟨g2,j1⟩:=M2.w hb
 have he:=aEL g1 g2
 have hn:(!wnP w1 w2 (prN a b))=decide (w1.getD a ""=w2.getD b ""):=by rw[aAY];simp
 rw[hn]
 unfold eG i6
 simp[-List.getD_eq_getElem?_getD,i0,j0,p0,p1,i1,j1,he]
noncomputable def fK(r1 r2:List (List Nat))(a b:Nat):List PZ:=bfP (afP r1 r2) (prN a b) (r1.length * r2.length)
end
end Mc
namespace Mc
open PySem L2 PyProof.Rows Fl
@[simp] theorem aIN(i:Nat)(f:Sg->R Fw)(ρ:Sg):i5 i f ρ=f (fzM i ρ):=id rfl
@[simp] theorem aJN(i:Nat)(ρ:Sg):fzM i ρ=match ρ[i]? with|some (some (.m kvs))=>ρ.set i (some (.f kvs))|_=>ρ:=id rfl
@[simp] theorem aIO(neg:Bool)(i:Nat)(f:Sg->R PyData)(ρ:Sg):aHE neg i f ρ=(f ρ).bind fun k=>match ρ[i]? with
 | some (some (.f kvs))=>if bM k (kvs.map (·.1))=true then .ok (.bool (if neg=true then !cF kvs k else cF kvs k)) else .bad
 | _=>.bad:=id rfl
@[simp] theorem aHV(i:Nat)(f:Sg->R PyData)(ρ:Sg):aFX i f ρ=match ρ[i]? with
 | some (some (.f kvs))=>(f ρ).bind fun k=>if bM k (kvs.map (·.1))=true then (match cI kvs k with
  | some v=>.ok v
  | none=>.bad) else .bad
 | _=>.bad:=id rfl
def psM(l:List PZ):List (PyData×PyData):=l.map fun p=>(p.1,stD p.2)
theorem mN(l:List PZ):(psM l).map (·.1)=l.map (·.1):=by unfold psM;rw[List.map_map];rfl
theorem tO{l:List PZ}{x:PyData}:cF (psM l) x=true↔x∈l.map (·.1):=by rw[iO,mN]
theorem rR{l:List PZ}{x:PyData}(h:x∉l.map (·.1)):cF (psM l) x=false:=by
 cases q:cF (psM l) x with
 | false=>rfl
 | true=>exact absurd (tO.mp q) h
theorem tP:∀ {l:List PZ} {i:Nat} {x:PyData} {z:List Nat},(l.map (·.1)).Nodup->l[i]? = some (x,z)->cI (psM l) x=some (stD z)
 | [],_,_,_,_,h=>by simp at h
 | p::t,0,x,z,_,h=>by
  simp at h
  subst h
  unfold cI psM
  simp
 | p::t,i+1,x,z,nd,h=>by
  have h':t[i]? = some (x,z):=by simpa using h
  rw[List.map_cons,List.nodup_cons] at nd
  have ih:=tP nd.2 h'
  have hne:¬ p.1=x:=fun e=>nd.1 (by rw[e];exact List.mem_map.mpr ⟨_,List.mem_of_getElem? h',rfl⟩)
  unfold cI psM at ih ⊢
  rw[List.map_cons,List.find?_cons]
  simp only[hne,decide_false]
  exact ih
theorem aCM{l:List PZ}{x:PyData}{z:List Nat}(h:x∉l.map (·.1)):putM (psM l) x (stD z)=psM (l++[(x,z)]):=by
 unfold putM
 rw[rR h,if_neg (by decide)]
 unfold psM
 rw[List.map_append];rfl
theorem aEP{k:Nat}(h:k < 3):dIx (.str "abc") (.int (k:Int))=.ok (.str ⟨#[97+k]⟩):=by
 rcases (by omega:k=0\/k=1\/k=2) with rfl|rfl|rfl<;>rfl
theorem aCN{z:List Nat}{c:Nat}(h:z.length < 16777216):bP (stD z) (.str ⟨#[c]⟩)=.ok (stD (z++[c])):=by
 unfold stD
 rw[aEI (by show z.toArray.size+1<=16777216;rw[List.size_toArray];exact h),show (⟨z.toArray⟩:Str)++(⟨#[c]⟩:Str)=⟨(z++[c]).toArray⟩ by
  show (⟨z.toArray ++ #[c]⟩:Str)=_
  simp]
@[simp] theorem aHW(i:Nat)(ρ:Sg):nP i ρ=match ρ[i]? with|some (some (.f kvs))=>if kvs.length<=16777216 then .ok (kvs.map (·.1)) else .bad|_=>.bad:=id rfl
end Mc
namespace Mc
open PySem L2 PyProof.Rows Fl
noncomputable def fsF:Sg->R Fw:=(aE (bI 9 (vD (cZ (aB (e2 dIx (e2 dIx (e2 dIx (rV 0) (eC (.int 0))) (rV 6)) (rV 8)) (aB (e2 dIx (e2 dIx (e2 dIx (rV 1) (eC (.int 0))) (rV 7)) (rV 8)) aL)))))
 (sIf (e1 asB (gB true 3 (eV 9))) (aE (iB 3 (eV 9) (e2 bP (gJ 3 (cZ (aB (eV 6) (aB (eV 7) aL)))) (e2 dIx (eC (.str "abc")) (rV 8))))
 (e8 4 (eV 9))) sNx))
noncomputable def fsT:Sg->R Bool:=(e1 asB (e2 dLt (rV 5) (e1 dLen (rV 4))))
noncomputable def fsB:Sg->R Fw:=(aE (mI (stT [(stN 6),(stN 7)]) (e2 dIx (rV 4) (rV 5)))
 (aE (eU (dN (e1 dLen (e2 dIx (e2 dIx (rV 0) (eC (.int 0))) (rV 6)))) (stN 8) fsF)
 (bI 5 (vD (e2 bP (rV 5) (eC (.int 1)))))))
theorem aEQ:hX=(aE (nO 3 (nN (eV 2) (eC (.str "")) qZ)) (aE (cB 4 (dM (aB (eV 2) aL))) (aE (bI 5 (vD (eC (.int 0)))) (aE (cA fsT fsB) (i5 3 (bN (vV 3))))))):=id rfl
noncomputable def fsρ(m1 m2 p:PyData)(l:List PZ)(n:Nat)(u6 u7 u8 u9:Option A):Sg:=[some (.d m1),some (.d m2),some (.d p),some (.m (psM l)),some (.l (l.map (·.1))),some (.d (.int (n:Int))),u6,u7,u8,u9]
section
variable{r1 r2:List (List Nat)}{w1 w2:List Str}{sg:Nat}
theorem aER{a0 b0 a b n:Nat}{p:PyData}{z:List Nat}{u8 u9:Option A}(M1:Rdw r1 w1 sg)(M2:Rdw r2 w2 sg)(hN:r1.length * r2.length<=100000)(ha0:a0 < r1.length)(hb0:b0 < r2.length)
  (hp:(bfP (afP r1 r2) (prN a0 b0) n)[n]? = some (prN a b,z)) (ha:a < r1.length) (hb:b < r2.length) (hz:∀ p∈bfP (afP r1 r2) (prN a0 b0) n,p.2.length<=n) (hn:n<=100000) :
  ∃ u8' u9',eS (stN 8) fsF ((List.range sg).map fun j:Nat=>PyData.int (j:Int)) (fsρ (rdW r1 w1) (rdW r2 w2) p (bfP (afP r1 r2) (prN a0 b0) n) n (some (.d (.int (a:Int)))) (some (.d (.int (b:Int)))) u8 u9)=.ok (.nx (fsρ (rdW r1 w1) (rdW r2 w2) p (bfP (afP r1 r2) (prN a0 b0) (n+1)) n (some (.d (.int (a:Int)))) (some (.d (.int (b:Int)))) u8' u9')) /\
   ∀ p∈bfP (afP r1 r2) (prN a0 b0) (n+1),p.2.length<=n+1:=by
 have hr1:=M1.r.at ha
 have hr2:=M2.r.at hb
 have s3:=M1.r.s3
 have e1:=zM hp
 have hzz:z.length<=n:=hz _ (List.mem_of_getElem? hp)
 have htk:∀ p∈bfP (afP r1 r2) (prN a0 b0) (n+1),f8 p.1=true:=fun p hp'=>by
  have:p.1∈bfQ (afP r1 r2) (prN a0 b0) (n+1):=by rw[<-jF];exact List.mem_map_of_mem hp'
  obtain ⟨c,d,_,_,e⟩:=lU M1.r M2.r ha0 hb0 this
  rw[e];rfl
 have hlen:=oK M1.r M2.r ha0 hb0 (n+1)
 have hY:(afP r1 r2 (prN a b)).length=sg:=by rw[iZ,List.length_map,List.length_zip,hr1.2.1,hr2.2.1];omega
 have hYk:∀ k,k < sg->∃ c d,(r1.getD a [])[k]? = some c/\(r2.getD b [])[k]? = some d/\(afP r1 r2 (prN a b))[k]? = some (prN c d):=fun k hk=>by
  refine ⟨_,_,List.getElem?_eq_getElem (by rw[hr1.2.1];exact hk),List.getElem?_eq_getElem (by rw[hr2.2.1];exact hk),?_⟩
  rw[iZ,List.getElem?_map,List.getElem?_eq_getElem (by rw[List.length_zip,hr1.2.1,hr2.2.1];omega),List.getElem_zip];rfl
 have i0:dIx (rdW r1 w1) (.int 0)=.ok (.tuple (r1.map bE)):=rfl
 have j0:dIx (rdW r2 w2) (.int 0)=.ok (.tuple (r2.map bE)):=rfl
 have i1:=dH (ws:=w1.map .str) M1.r ha
 have j1:=dH (ws:=w2.map .str) M2.r hb
 obtain ⟨ρ',q1,u8',u9',q2,hz'⟩:=j9 (fs:=stN 8) (fb:=fsF) (d:=fun j:Nat=>PyData.int (j:Int)) (xs:=List.range sg) (ρ:=fsρ (rdW r1 w1) (rdW r2 w2) p (bfP (afP r1 r2) (prN a0 b0) n) n (some (.d (.int (a:Int)))) (some (.d (.int (b:Int)))) u8 u9)
  (fun k ρ=>∃ u8' u9',ρ=fsρ (rdW r1 w1) (rdW r2 w2) p (((afP r1 r2 (prN a b)).zipIdx.take k).foldl (adP z) (bfP (afP r1 r2) (prN a0 b0) n)) n (some (.d (.int (a:Int)))) (some (.d (.int (b:Int)))) u8' u9'/\∀ p∈((afP r1 r2 (prN a b)).zipIdx.take k).foldl (adP z) (bfP (afP r1 r2) (prN a0 b0) n),p.2.length<=n+1)
  ⟨u8,u9,by simp,fun p hp'=>by have:=hz p (by simpa using hp');omega⟩
  (fun k kk ρ hk zz0=>by
  obtain ⟨v',w',e,hz'⟩:=zz0
  obtain ⟨hkl,rfl⟩:k < sg/\kk=k:=by
   have:=List.getElem?_eq_some_iff.mp hk
   obtain ⟨h1,h2⟩:=this
   rw[List.length_range] at h1
   rw[List.getElem_range] at h2
   exact ⟨h1,h2.symm⟩
  obtain ⟨c,d,hc,hd,hy⟩:=hYk kk hkl
  have hkx:(afP r1 r2 (prN a b)).zipIdx[kk]? = some (prN c d,kk):=by rw[List.getElem?_zipIdx,hy];simp
  have ht:(afP r1 r2 (prN a b)).zipIdx.take (kk+1)=(afP r1 r2 (prN a b)).zipIdx.take kk++[(prN c d,kk)]:=by rw[List.take_add_one,hkx];rfl
  have hpre:((afP r1 r2 (prN a b)).zipIdx.take (kk+1)).foldl (adP z) (bfP (afP r1 r2) (prN a0 b0) n) <+: bfP (afP r1 r2) (prN a0 b0) (n+1):=by
   rw[e1]
   have:(afP r1 r2 (prN a b)).zipIdx.foldl (adP z) (bfP (afP r1 r2) (prN a0 b0) n)=((afP r1 r2 (prN a b)).zipIdx.drop (kk+1)).foldl (adP z) (((afP r1 r2 (prN a b)).zipIdx.take (kk+1)).foldl (adP z) (bfP (afP r1 r2) (prN a0 b0) n)):=by
    rw[<-List.foldl_append,List.take_append_drop]
   rw[this];exact mM _ _ _
  have hgz:(((afP r1 r2 (prN a b)).zipIdx.take kk).foldl (adP z) (bfP (afP r1 r2) (prN a0 b0) n))[n]? = some (prN a b,z):=zG (mM z _ _) hp
  rw[ht,List.foldl_append,List.foldl_cons,List.foldl_nil] at hpre ⊢
  generalize ((afP r1 r2 (prN a b)).zipIdx.take kk).foldl (adP z) (bfP (afP r1 r2) (prN a0 b0) n)=F at *
  have hF:F <+: bfP (afP r1 r2) (prN a0 b0) (n+1):=(tN z F (prN c d,kk)).trans hpre
  have hFl:F.length<=100000:=by have:=hF.length_le;rw[fQ] at this;omega
  have ndF:(F.map (·.1)).Nodup:=by
   have:=aEO (after:=afP r1 r2) (x0:=prN a0 b0) (n+1)
   obtain ⟨t,et⟩:=hF
   rw[<-et,List.map_append] at this
   exact (List.nodup_append.mp this).1
  have hkeys:∀ x y:Int,bM (.tuple [.int x,.int y]) ((psM F).map (·.1))=true:=fun x y=>by
   unfold bM
   rw[mN,Bool.or_eq_true,Bool.and_eq_true,Bool.and_eq_true]
   exact .inl ⟨rfl,List.all_eq_true.mpr fun p hp'=>by
    obtain ⟨pp,hpp,rfl⟩:=List.mem_map.mp hp'
    exact htk pp (hF.subset hpp)⟩
  have hg:cI (psM F) (.tuple [.int (a:Int),.int (b:Int)])=some (stD z):=tP ndF hgz
  have ha:=aEP (show kk < 3 by omega)
  have hadd:=aCN (z:=z) (c:=97+kk) (by omega)
  have hml:(psM F).length<=16777216:=by unfold psM;rw[List.length_map];omega
  have hFl2:F.length < 16777216:=by omega
  have c1:dIx (bE (r1.getD a [])) (.int (kk:Int))=.ok (.int (c:Int)):=j8 (eF (by rw[List.getElem?_map,hc];rfl))
  have d1:dIx (bE (r2.getD b [])) (.int (kk:Int))=.ok (.int (d:Int)):=j8 (eF (by rw[List.getElem?_map,hd];rfl))
  by_cases hm:prN c d∈F.map (·.1)
  ·have h1:cF (psM F) (.tuple [.int (c:Int),.int (d:Int)])=true:=tO.mpr hm
   have ea:adP z F (prN c d,kk)=F:=if_pos hm
   rw[ea]
   refine ⟨_,fsρ (rdW r1 w1) (rdW r2 w2) p F n (some (.d (.int (a:Int)))) (some (.d (.int (b:Int)))) (some (.d (.int (kk:Int)))) (some (.d (prN c d))),by rw[e];rfl,.inl ?_,some (.d (.int (kk:Int))),some (.d (prN c d)),rfl,hz'⟩
   simp[-List.getD_eq_getElem?_getD,fsF,fsρ,prN,hkeys,h1,i0,j0,i1,j1,c1,d1]
  ·have h1:cF (psM F) (.tuple [.int (c:Int),.int (d:Int)])=false:=rR hm
   have h2:putM (psM F) (.tuple [.int (c:Int),.int (d:Int)]) (stD (z++[97+kk]))=psM (F++[(prN c d,z++[97+kk])]):=aCM (z:=z++[97+kk]) hm
   have ea:adP z F (prN c d,kk)=F++[(prN c d,z++[97+kk])]:=if_neg hm
   rw[ea]
   refine ⟨_,fsρ (rdW r1 w1) (rdW r2 w2) p (F++[(prN c d,z++[97+kk])]) n (some (.d (.int (a:Int)))) (some (.d (.int (b:Int)))) (some (.d (.int (kk:Int)))) (some (.d (prN c d))),by rw[e];rfl,.inl ?_,some (.d (.int (kk:Int))),some (.d (prN c d)),rfl,fun p hp'=>?_⟩
   ·simp[-List.getD_eq_getElem?_getD,fsF,fsρ,prN,hkeys,h1,h2,hg,ha,hadd,hml,hFl2,i0,j0,i1,j1,c1,d1]
   ·rcases List.mem_append.mp hp' with h|h
    · exact hz' p h
    · rw [List.mem_singleton.mp h]; simp; omega)
 rw[List.length_range,List.take_of_length_le (by rw[List.length_zipIdx,hY];omega)] at q2 hz'
 rw[<-e1] at q2 hz'
 exact ⟨u8',u9',by rw[q1,q2],hz'⟩
theorem aCO{a0 b0:Nat}{p:PyData}(M1:Rdw r1 w1 sg)(M2:Rdw r2 w2 sg)(hN:r1.length * r2.length<=100000)(ha0:a0 < r1.length)(hb0:b0 < r2.length):∀ (k n:Nat) (u6 u7 u8 u9:Option A),n+k=r1.length * r2.length->(∀ p∈bfP (afP r1 r2) (prN a0 b0) n,p.2.length<=n)->
  aE (cA fsT fsB) (i5 3 (bN (vV 3))) (fsρ (rdW r1 w1) (rdW r2 w2) p (bfP (afP r1 r2) (prN a0 b0) n) n u6 u7 u8 u9)=.ok (.rt (.f (psM (fK r1 r2 a0 b0)))):=by
 have fin:∀ (n:Nat) (u6 u7 u8 u9:Option A),n<=r1.length * r2.length->(bfQ (afP r1 r2) (prN a0 b0) n).length<=n->aE (cA fsT fsB) (i5 3 (bN (vV 3))) (fsρ (rdW r1 w1) (rdW r2 w2) p (bfP (afP r1 r2) (prN a0 b0) n) n u6 u7 u8 u9)=.ok (.rt (.f (psM (fK r1 r2 a0 b0)))):=fun n u6 u7 u8 u9 hn h=>by
  have he:fK r1 r2 a0 b0=bfP (afP r1 r2) (prN a0 b0) n:=by
   unfold fK
   obtain ⟨k,hk⟩:=Nat.le.dest hn
   rw[<-hk,rP h k]
  have hT:fsT (fsρ (rdW r1 w1) (rdW r2 w2) p (bfP (afP r1 r2) (prN a0 b0) n) n u6 u7 u8 u9)=.ok false:=by
   rw[<-fQ] at h
   simp[fsT,fsρ,iT]
   omega
  rw[iH,w4 hT,he]
  simp[fsρ]
 intro k
 induction k with
 | zero=>intro n u6 u7 u8 u9 hk hz;exact fin n u6 u7 u8 u9 (by omega) (by have:=oK M1.r M2.r ha0 hb0 n;omega)
 | succ k ih=>
  intro n u6 u7 u8 u9 hk hz
  by_cases h:(bfQ (afP r1 r2) (prN a0 b0) n).length<=n
  ·exact fin n u6 u7 u8 u9 (by omega) h
  ·obtain ⟨⟨x,z⟩,hp⟩:∃ p,(bfP (afP r1 r2) (prN a0 b0) n)[n]? = some p:=⟨_,List.getElem?_eq_getElem (show n < (bfP (afP r1 r2) (prN a0 b0) n).length by rw[fQ];omega)⟩
   have hx:x∈bfQ (afP r1 r2) (prN a0 b0) n:=by rw[<-jF];exact List.mem_map.mpr ⟨_,List.mem_of_getElem? hp,rfl⟩
   obtain ⟨a,b,ha,hb,rfl⟩:=lU M1.r M2.r ha0 hb0 hx
   obtain ⟨v',w',qq,hz'⟩:=aER (p:=p) (u8:=u8) (u9:=u9) M1 M2 hN ha0 hb0 hp ha hb hz (by omega)
   have hT:fsT (fsρ (rdW r1 w1) (rdW r2 w2) p (bfP (afP r1 r2) (prN a0 b0) n) n u6 u7 u8 u9)=.ok true:=by
    rw[<-fQ] at h
    simp[fsT,fsρ,iT]
    omega
   have i0:dIx (rdW r1 w1) (.int 0)=.ok (.tuple (r1.map bE)):=rfl
   have i1:=dH (ws:=w1.map .str) M1.r ha
   have hr:=M1.r.at ha
   have s3:=M1.r.s3
   have hl:dLen (bE (r1.getD a []))=.ok (.int (sg:Int)):=by
    unfold bE
    rw[iU,List.length_map,hr.2.1]
   have hrg:=k9 (n:=sg) (by omega)
   have ix:dIx (.list ((bfP (afP r1 r2) (prN a0 b0) n).map (·.1))) (.int (n:Int))=.ok (.tuple [.int (a:Int),.int (b:Int)]):=nQ (eF (by rw[List.getElem?_map,hp];rfl))
   have hB:fsB (fsρ (rdW r1 w1) (rdW r2 w2) p (bfP (afP r1 r2) (prN a0 b0) n) n u6 u7 u8 u9)=.ok (.nx (fsρ (rdW r1 w1) (rdW r2 w2) p (bfP (afP r1 r2) (prN a0 b0) (n+1)) (n+1) (some (.d (.int (a:Int)))) (some (.d (.int (b:Int)))) v' w')):=by
    unfold fsρ at qq ⊢
    simp[-List.getD_eq_getElem?_getD,fsB,ix,i0,i1,hl,hrg,qq]
   rw[iH,wZ hT hB,<-iH]
   exact ih (n+1) _ _ _ _ (by omega) hz'
theorem aES(M1:Rdw r1 w1 sg)(M2:Rdw r2 w2 sg)(hN:r1.length * r2.length<=100000){a b:Nat}(ha:a < r1.length)(hb:b < r2.length) :
  fA [.d (rdW r1 w1),.d (rdW r2 w2),.d (prN a b)]=.ok (.f (psM (fK r1 r2 a b))):=by
 have h:=aCO (p:=prN a b) M1 M2 hN ha hb (r1.length * r2.length) 0 none none none none (by omega) (by intro p hp;rw[List.mem_singleton.mp hp];exact Nat.le_refl _)
 have h:aE (cA fsT fsB) (i5 3 (bN (vV 3))) [some (.d (rdW r1 w1)),some (.d (rdW r2 w2)),some (.d (prN a b)),some (.m [(prN a b,.str "")]),some (.l [prN a b]),some (.d (.int 0)),none,none,none,none]=.ok (.rt (.f (psM (fK r1 r2 a b)))):=h
 have htk:f8 (prN a b)=true:=rfl
 have hp:Fl.c7 [] [(prN a b,PyData.str "")]=.ok [(prN a b,PyData.str "")]:=by simp[Fl.c7,bM,htk,putM,cF,cI]
 unfold fA
 rw[aEQ]
 rw[iH] at h
 simp only[aEG,iH,zE,zF,aCI,aAV,aF1,R.bind_ok,hp,List.length_cons,List.length_nil,Nat.reduceAdd,Nat.reduceSub,List.map_cons,List.map_nil,List.cons_append,List.nil_append,List.replicate,List.set_cons_zero,List.set_cons_succ,List.getElem?_cons_zero,List.getElem?_cons_succ,rH,tH,rG,tG,Nat.reduceLeDiff,if_true,aCC,aF3,h]
theorem aET{w v:Str}(h:rQ w)(h':rQ v):dNe (.str w) (.str v)=.ok (.bool (!decide (w=v))):=by
 rw[rM (kB h) (kB h'),w8]
 congr 3
end
end Mc
namespace Mc
open PySem L2 PyProof.Rows Fl
def aHX(rows:List (List Nat))(q c:Nat):Nat:=(rows.getD q []).getD (c - 97) 0
def uV(rows:List (List Nat))(q:Nat)(z:List Nat):Nat:=z.foldl (aHX rows) q
def Sgs(sg:Nat)(z:List Nat):Prop:=∀ c∈z,vW sg c=true
section
variable{rows r1 r2:List (List Nat)}{ws w1 w2:List Str}{sg:Nat}
def EqI(rows:List (List Nat))(ws:List Str)(sg i x y:Nat):Prop:=∀ w,Sgs sg w->w.length<=i->ws.getD (uV rows x w) ""=ws.getD (uV rows y w) ""
end
end Mc
namespace Mc
open PySem L2 PyProof.Rows Fl
end Mc
namespace Mc
open PySem L2 PyProof.Rows Fl
section
variable{rows:List (List Nat)}{ws:List Str}{sg:Nat}
def EqA(rows:List (List Nat))(ws:List Str)(sg x y:Nat):Prop:=∀ w,Sgs sg w->ws.getD (uV rows x w) ""=ws.getD (uV rows y w) ""
end
end Mc
namespace Mc
open PySem L2 PyProof.Rows Fl
section
variable{rows:List (List Nat)}{ws:List Str}{sg:Nat}{L:List Nat}
structure Lk(rows:List (List Nat))(ws:List Str)(sg:Nat)(L:List Nat):Prop where
 len:L.length=rows.length
 at_:∀ x,x < rows.length->L[x]? = some (L.getD x 0)/\L.getD x 0<=x/\EqA rows ws sg x (L.getD x 0)/\∀ b,b < L.getD x 0->¬ EqA rows ws sg (L.getD x 0) b
noncomputable def afL(rows:List (List Nat))(L:List Nat):PyData->List PyData
 | .int q=>(rows.getD q.toNat []).map fun j=>.int (L.getD j 0:Int)
 | _=>[]
structure Lst(rows:List (List Nat))(ws:List Str)(L:List Nat)(N:Nat):Prop where
 len:(bfQ (afL rows L) (.int 0) N).length=N
 on:∀ m,m < N->m < (bfQ (afL rows L) (.int 0) m).length
 le:N<=rows.length
end
end Mc
namespace Mc
open PySem L2 PyProof.Rows Fl
end Mc
namespace Mc
open PySem L2 PyProof.Rows Fl
end Mc
namespace Zp
open PySem L2
end Zp
namespace Fl
open PySem L2 PyProof.Rows
noncomputable def aCP(i j:Nat)(f g:Sg->R PyData):Sg->R Fw:=fun ρ=>match ρ[i]? with
 | some (some (.l xs))=>match ρ[j]? with
  | some (some (.m kvs))=>(f ρ).bind fun k=>(g ρ).bind fun y=>if bM k (kvs.map (·.1))=true/\kvs.length<=16777216/\xs.length < 16777216/\i≠j then
   .ok (.nx ((ρ.set j (some (.m (match cI kvs k with|some _=>kvs|none=>putM kvs k y)))).set i (some (.l (xs++[(cI kvs k).getD y]))))) else .bad
  | _=>.bad
 | _=>.bad
end Fl
namespace Fl
open PySem L2 PyProof.Rows
@[simp] theorem aGB(i j:Nat)(f g:Sg->R PyData)(ρ:Sg):aCP i j f g ρ=match ρ[i]? with
 | some (some (.l xs))=>match ρ[j]? with
  | some (some (.m kvs))=>(f ρ).bind fun k=>(g ρ).bind fun y=>if bM k (kvs.map (·.1))=true/\kvs.length<=16777216/\xs.length < 16777216/\i≠j then
   .ok (.nx ((ρ.set j (some (.m (match cI kvs k with|some _=>kvs|none=>putM kvs k y)))).set i (some (.l (xs++[(cI kvs k).getD y]))))) else .bad
  | _=>.bad
 | _=>.bad:=id rfl
@[simp] theorem aHY(i:Nat)(ρ:Sg):aFY i ρ=match ρ[i]? with
 | some (some (.m kvs))=>if kvs.length<=16777216 then .ok (.int (kvs.length:Int)) else .bad
 | some (some (.f kvs))=>if kvs.length<=16777216 then .ok (.int (kvs.length:Int)) else .bad
 | _=>.bad:=id rfl
end Fl
namespace Mc
open PySem L2 PyProof.Rows Fl
section
variable{rows:List (List Nat)}{ws:List Str}{sg:Nat}
def kOk(d:PyData):Prop:=(∃ i,d=.int i)\/∃ w,rQ w/\d=.str w
structure Kd(rows:List (List Nat))(ws:List Str)(sg i:Nat)(κ:Nat->PyData):Prop where
 ok:∀ x,x < rows.length->kOk (κ x)
 iff:∀ x y,x < rows.length->y < rows.length->(κ x=κ y↔EqI rows ws sg i x y)
end
end Mc
namespace Mc
open PySem L2 PyProof.Rows Fl
noncomputable def afW(rs:List Rw)(sg:Nat)(x:PyData):List PyData:=(List.range sg).map (aHU rs x)
noncomputable def bfW(rs:List Rw)(sg n:Nat):List PyData:=bfQ (afW rs sg) (aAX rs []) n
structure ZsOk(rs:List Rw)(sg n:Nat)(zs:List (List Nat)):Prop where
 map:zs.map (aAX rs)=bfW rs sg n
 ok:∀ z∈zs,aFL sg z/\z.length<=n
structure EndW(rs:List Rw)(sg most N:Nat):Prop where
 on:∀ m,m < N->m < (bfW rs sg m).length/\(bfW rs sg m).length<=most
 off:(bfW rs sg N).length<=N\/most < (bfW rs sg N).length
end Mc
namespace Mc
open PySem L2 PyProof.Rows Fl
structure Sml(rs:List Rw)(sg N:Nat):Prop where
 m:Mach rs sg
 e:EndW rs sg 40 N
 n:N<=40
 few:(bfW rs sg N).length<=40
 s2:sg<=2
 r5:rs.length<=5
end Mc
namespace Mc
open PySem L2 PyProof.Rows Fl
section
variable{rs:List Rw}{sg N:Nat}
structure Wy(rs:List Rw)(sg N:Nat):Prop where
 m:Mach rs sg
 len:(bfW rs sg N).length=N
 n:N<=200
end
end Mc
namespace Mc
open PySem L2 PyProof.Rows Fl
end Mc
namespace Mc
open PySem L2 PyProof.Rows Fl
noncomputable def owI:Sg->R Fw:=(aE (sIf (d0 (e1 asB (eV 8))) (bI 9 (vD (e2 dDiv (e2 dMod (e2 bP (e2 dMul (rV 9) (eC (.int 48271))) (eC (.int 7919))) (eC (.int 2147483647))) (eC (.int 64))))) sNx)
 (aE (e8 10 (e2 dMod (rV 9) (rV 2)))
 (bI 9 (vD (e2 dDiv (rV 9) (rV 2))))))
noncomputable def owR:Sg->R Fw:=(aE (cB 10 (dM aL))
 (aE (eU (dN (rV 3)) (stN 11) owI)
 (aE (e8 6 (e2 dIx (eL (dM (aB (eC (.str "by")) (aB (eC (.str "out")) (aB (eC (.str "ever")) aL))))) (e2 dMod (rV 9) (rV 4))))
 (e8 5 (e1 dTup (rV 10))))))
noncomputable def owB:Sg->R Fw:=(aE (bI 8 (vD (kT (e2 dLt (e2 bP (rV 1) (rV 7)) (e1 dLen (rV 0))) (e2 dEq (e2 dMod (e2 dIx (rV 0) (eC (.int 0))) (eC (.int 2))) (eC (.int 1))))))
 (aE (bI 9 (vD (e2 dMod (eA (bD 2 bG (aB (vV 0) (aB (vD (e2 bP (rV 1) (rV 7))) aL)))) (eC (.int 2147483647)))))
 (aE (sIf (e1 asB (eV 8)) (bI 9 (vD (e2 dIx (rV 0) (e2 bP (rV 1) (rV 7))))) sNx) owR)))
theorem aEU:kE=(aE (cB 5 (dM aL)) (aE (cB 6 (dM aL)) (aE (eU (dN (rV 2)) (stN 7) owB) (bN (vD (cZ (aB (e1 dTup (rV 5)) (aB (e1 dTup (rV 6)) aL)))))))):=id rfl
def oM(js:List Nat):List PyData:=js.map fun j:Nat=>.int (j:Int)
theorem xG{v m:Int}(h1:1<=m)(h3:m<=3):∃ w:Str,(w="by"\/w="out"\/w="ever")/\dIx (.list [.str "by",.str "out",.str "ever"]) (.int (v % m))=.ok (.str w):=by
 have a:=Int.emod_nonneg v (show m≠0 by omega)
 have b:=Int.emod_lt_of_pos v (show 0 < m by omega)
 rcases (by omega:v % m=0\/v % m=1\/v % m=2) with h|h|h<;>rw[h]
 · exact ⟨"by", .inl rfl, rfl⟩
 · exact ⟨"out", .inr (.inl rfl), rfl⟩
 · exact ⟨"ever", .inr (.inr rfl), rfl⟩
theorem aEV{a b n sg m p q r:Option A}{N SG:Nat}{W:Int}{xs ws:List PyData}{dg:Bool}{num:Int}(hN:1<=N)(hN2:N<=1000)(hn:n=some (.d (.int (N:Int))))(hs:sg=some (.d (.int (SG:Int))))(hm:m=some (.d (.int W)))(w1:1<=W)(w3:W<=3)(s3:SG<=3)(hx:xs.length < 16777216)(hw:ws.length < 16777216) :
  ∃ (js:List Nat) (w:Str) (num':Option A) (q' r':Option A),js.length=SG/\(∀ j∈js,j < N)/\(w="by"\/w="out"\/w="ever") /\
   owR [a,b,n,sg,m,some (.l xs),some (.l ws),p,some (.d (.bool dg)),some (.d (.int num)),q,r]=.ok (.nx [a,b,n,sg,m,some (.l (xs++[bE js])),some (.l (ws++[.str w])),p,some (.d (.bool dg)),num',q',r']):=by
 subst hn hs hm
 have hn0:(0:Int) < (N:Int):=by omega
 have hrg:=k9 (n:=SG) (by omega)
 obtain ⟨ρ',q1,js,v,r',q2,hj,hjs⟩:=j9 (fs:=stN 11) (fb:=owI) (d:=fun i:Nat=>PyData.int (i:Int)) (xs:=List.range SG) (ρ:=[a,b,some (.d (.int (N:Int))),some (.d (.int (SG:Int))),some (.d (.int W)),some (.l xs),some (.l ws),p,some (.d (.bool dg)),some (.d (.int num)),some (.l []),r])
  (fun i ρ=>∃ (js:List Nat) (v:Int) (r':Option A),ρ=[a,b,some (.d (.int (N:Int))),some (.d (.int (SG:Int))),some (.d (.int W)),some (.l xs),some (.l ws),p,some (.d (.bool dg)),some (.d (.int v)),some (.l (oM js)),r']/\js.length=i/\∀ j∈js,j < N) ⟨[],num,r,rfl,rfl,fun j hj=>by simp at hj⟩ fun i k ρ hk zz0=>by
  obtain ⟨js,v,r',e,hj,hjs⟩:=zz0
  have hi:i < SG:=by have:=(List.getElem?_eq_some_iff.mp hk).1;simpa using this
  have hjl:js.length < 16777216:=by omega
  have key:∀ y:Int,∃ j:Nat,(y % (N:Int))=(j:Int)/\j < N:=fun y=>⟨(y % (N:Int)).toNat,by have:=Int.emod_nonneg y (show (N:Int)≠0 by omega);omega,by have:=Int.emod_lt_of_pos y hn0;omega⟩
  have hN64:(N:Int) < 18446744073709551616:=by omega
  cases dg with
  | true=>
   obtain ⟨j,e1,e2⟩:=key v
   refine ⟨[a,b,some (.d (.int (N:Int))),some (.d (.int (SG:Int))),some (.d (.int W)),some (.l xs),some (.l ws),p,some (.d (.bool true)),some (.d (.int v)),some (.l (oM js)),some (.d (.int (k:Int)))],_,by rw[e];rfl,.inl ?_,js++[j],v / (N:Int),some (.d (.int (k:Int))),rfl,by simp[hj],fun x hx=>?_⟩
   ·simp[owI,cH hn0,dP hn0 hN64,hjl,e1,oM]
   ·rcases List.mem_append.mp hx with h|h
    · exact hjs x h
    · rw [List.mem_singleton.mp h]; exact e2
  | false=>
   obtain ⟨j,e1,e2⟩:=key ((v * 48271+7919) % 2147483647 / 64)
   have m1:dMul (.int v) (.int 48271)=.ok (.int (v * 48271)):=rJ (by decide) (by decide)
   have m2:∀ y:Int,dMod (.int y) (.int 2147483647)=.ok (.int (y % 2147483647)):=fun y=>cH (by decide)
   have m3:∀ y:Int,dDiv (.int y) (.int 64)=.ok (.int (y / 64)):=fun y=>dP (by decide) (by decide)
   refine ⟨[a,b,some (.d (.int (N:Int))),some (.d (.int (SG:Int))),some (.d (.int W)),some (.l xs),some (.l ws),p,some (.d (.bool false)),some (.d (.int v)),some (.l (oM js)),some (.d (.int (k:Int)))],_,by rw[e];rfl,.inl ?_,js++[j],(v * 48271+7919) % 2147483647 / 64 / (N:Int),some (.d (.int (k:Int))),rfl,by simp[hj],fun x hx=>?_⟩
   ·simp[owI,m1,m2,m3,cH hn0,dP hn0 hN64,hjl,e1,oM]
   ·rcases List.mem_append.mp hx with h|h
    · exact hjs x h
    · rw [List.mem_singleton.mp h]; exact e2
 subst q2
 rw[List.length_range] at hj
 obtain ⟨w,hw1,hw2⟩:=xG (v:=v) w1 w3
 have m4:dMod (.int v) (.int W)=.ok (.int (v % W)):=cH (by omega)
 refine ⟨js,w,some (.d (.int v)),some (.l (oM js)),r',hj,hjs,hw1,?_⟩
 simp only[owR,iH,rH,tH,tG,rG,R.bind_ok,List.length_nil,List.length_cons,Nat.reduceAdd,Nat.reduceLeDiff,Nat.zero_le,if_true,List.set_cons_zero,List.set_cons_succ,aCE,uU,aF2,List.getElem?_cons_zero,List.getElem?_cons_succ,hrg,q1,aCD,aF0,aFZ,aF4,aAV,m4,hw2,hw,hx,aEH]
 rfl
theorem aEW{ns:List Int}{at' W:Int}{n sg:Nat}(hat:0<=at')(h1:1<=n)(h2:n<=1000)(s1:1<=sg)(s3:sg<=3)(w1:1<=W)(w3:W<=3):∃ (rows:List (List Nat)) (ws:List Str),g8 [.d (fB ns),.d (.int at'),.d (.int n),.d (.int sg),.d (.int W)]=.ok (.d (rdD rows (ws.map .str)))/\Rdr rows sg/\rows.length=n/\ws.length=n/\∀ w∈ws,w="by"\/w="out"\/w="ever":=by
 have hrg:=k9 (n:=n) (by omega)
 obtain ⟨ρ',q1,rows,ws,u,v,x,y,z,q2,l1,l2,hr,hw⟩:=j9 (fs:=stN 7) (fb:=owB) (d:=fun i:Nat=>PyData.int (i:Int)) (xs:=List.range n) (ρ:=[some (.d (fB ns)),some (.d (.int at')),some (.d (.int n)),some (.d (.int sg)),some (.d (.int W)),some (.l []),some (.l []),none,none,none,none,none])
  (fun i ρ=>∃ (rows:List (List Nat)) (ws:List Str) (u v x y z:Option A),ρ=[some (.d (fB ns)),some (.d (.int at')),some (.d (.int n)),some (.d (.int sg)),some (.d (.int W)),some (.l (rows.map bE)),some (.l (ws.map .str)),u,v,x,y,z]/\rows.length=i/\ws.length=i/\(∀ r∈rows,r.length=sg/\∀ j∈r,j < n)/\∀ w∈ws,w="by"\/w="out"\/w="ever")
  ⟨[],[],none,none,none,none,none,rfl,rfl,rfl,fun r hr=>by simp at hr,fun w hw=>by simp at hw⟩ fun i k ρ hk zz0=>by
  obtain ⟨rows,ws,u,v,x,y,z,e,l1,l2,hr,hw⟩:=zz0
  have hi:i < n:=by have:=(List.getElem?_eq_some_iff.mp hk).1;simpa using this
  obtain ⟨c,hc⟩:=lB ns (at'+(k:Int))
  have m2:∀ y:Int,dMod (.int y) (.int 2147483647)=.ok (.int (y % 2147483647)):=fun y=>cH (by decide)
  have mm:∀ y:Int,dMod (.int y) (.int 2)=.ok (.int (y % 2)):=fun y=>cH (by decide)
  have tail:∀ (dg:Bool) (num:Int),∃ ρ2,(owR [some (.d (fB ns)),some (.d (.int at')),some (.d (.int n)),some (.d (.int sg)),some (.d (.int W)),some (.l (rows.map bE)),some (.l (ws.map .str)),some (.d (.int (k:Int))),some (.d (.bool dg)),some (.d (.int num)),y,z]=.ok (.nx ρ2))/\∃ (rows:List (List Nat)) (ws:List Str) (u v x y z:Option A),ρ2=[some (.d (fB ns)),some (.d (.int at')),some (.d (.int n)),some (.d (.int sg)),some (.d (.int W)),some (.l (rows.map bE)),some (.l (ws.map .str)),u,v,x,y,z]/\rows.length=i+1/\ws.length=i+1/\(∀ r∈rows,r.length=sg/\∀ j∈r,j < n)/\∀ w∈ws,w="by"\/w="out"\/w="ever":=fun dg num=>by
   obtain ⟨js,w,a1,a2,a3,b1,b2,b3,b4⟩:=aEV (a:=some (.d (fB ns))) (b:=some (.d (.int at'))) (p:=some (.d (.int (k:Int)))) (q:=y) (r:=z) (xs:=rows.map bE) (ws:=ws.map .str) (dg:=dg) (num:=num) (W:=W) (SG:=sg) h1 h2 rfl rfl rfl w1 w3 s3 (by simp;omega) (by simp;omega)
   refine ⟨_,b4,rows++[js],ws++[w],some (.d (.int (k:Int))),some (.d (.bool dg)),a1,a2,a3,by simp,by simp[l1],by simp[l2],fun r hr'=>?_,fun w' hw'=>?_⟩
   ·rcases List.mem_append.mp hr' with h|h
    · exact hr r h
    · rw [List.mem_singleton.mp h]; exact ⟨b1, b2⟩
   ·rcases List.mem_append.mp hw' with h|h
    · exact hw w' h
    · rw [List.mem_singleton.mp h]; exact b3
  by_cases c1:at'+(k:Int) < (ns.length:Int)
  ·obtain ⟨w0,hw0⟩:=rN (ns:=ns) (i:=0) (Int.le_refl _) (by omega)
   obtain ⟨wk,hwk⟩:=rN (ns:=ns) (i:=at'+(k:Int)) (by omega) c1
   by_cases c2:w0 % 2=1
   ·obtain ⟨ρ2,t1,t2⟩:=tail true wk
    refine ⟨[some (.d (fB ns)),some (.d (.int at')),some (.d (.int n)),some (.d (.int sg)),some (.d (.int W)),some (.l (rows.map bE)),some (.l (ws.map .str)),some (.d (.int (k:Int))),v,x,y,z],ρ2,by rw[e];rfl,.inl ?_,t2⟩
    rw[<-t1]
    simp[owB,jE,c1,hw0,mm,c2,lA,hc,m2,hwk]
   ·obtain ⟨ρ2,t1,t2⟩:=tail false (c % 2147483647)
    refine ⟨[some (.d (fB ns)),some (.d (.int at')),some (.d (.int n)),some (.d (.int sg)),some (.d (.int W)),some (.l (rows.map bE)),some (.l (ws.map .str)),some (.d (.int (k:Int))),v,x,y,z],ρ2,by rw[e];rfl,.inl ?_,t2⟩
    rw[<-t1]
    simp[owB,jE,c1,hw0,mm,c2,lA,hc,m2]
  ·obtain ⟨ρ2,t1,t2⟩:=tail false (c % 2147483647)
   refine ⟨[some (.d (fB ns)),some (.d (.int at')),some (.d (.int n)),some (.d (.int sg)),some (.d (.int W)),some (.l (rows.map bE)),some (.l (ws.map .str)),some (.d (.int (k:Int))),v,x,y,z],ρ2,by rw[e];rfl,.inl ?_,t2⟩
   rw[<-t1]
   simp[owB,jE,c1,hc,m2]
 subst q2
 rw[List.length_range] at l1 l2
 refine ⟨rows,ws,?_,⟨by omega,by omega,s1,s3,fun r h=>by rw[l1];exact hr r h⟩,l1,l2,hw⟩
 unfold g8
 rw[aEU]
 simp[hrg,q1,rdD]
end Mc
namespace Mc
open PySem L2 PyProof.Rows Fl
section
variable{rows r1 r2:List (List Nat)}{ws w1 w2:List Str}{sg:Nat}{L:List Nat}{N:Nat}
end
end Mc
namespace Mc
open PySem L2 PyProof.Rows Fl
end Mc
namespace Mc
open PySem L2 PyProof.Rows Fl
section
variable{rows:List (List Nat)}{ws:List Str}{rs:List Rw}{sg N:Nat}{L:List Nat}
end
end Mc
namespace Zp
open PySem
theorem rS:typeLookup (.type "list") "keys"=pure none:=by rw[typeLookup_type,builtinLookup_eq_fast];kernel_rfl
theorem oN{prog:Program}{w:World}{A:Around}{E:Value->Shared->Prop}{s:Shared}{a:Addr}{xs:Array Value}{k:Nat}{sl:Array (Option Value)}{Q:Option Value->Shared->Prop}
  (hx:s.heap.get? a=some {cls:=.type "list",dict:=none,data:=.seq xs k,slots:=sl}) (hA:A.handled=none)
  (h:∀ h' tk,(∀ b o,s.heap.get? b=some o->h'.get? b=some o)->Q none {s with heap:=h',toks:=tk}) :
  wpAny (model prog w) A (getAttr? (.ref a) "keys") Q E s:=by
 obtain ⟨hp,g,d,tk,os⟩:=s
 have hT:∀ t':Nat,(⟨hp,g,d,t',os⟩:Shared).TypeIs (.ref a) "list":=fun _=>⟨_,hx,rfl⟩
 have f1:=sub_AttributeError
 have f3:=F.slot_list_getattribute.lookup
 have f4:=F.slot_list_getattribute.bind (.ref a)
 have f5:=am_list_getattr_none
 unfold getAttr? getAttrBy? getAttrBy
 repeat (any_goals (first|assumption|exact hT _|((with_reducible show wpAny _ _ (call (Value.builtin "list.__getattribute__") _ _) _ _ _);refine call_meets F.slot_list_getattribute (hT _) am_entry_list_getattribute (F.args_list_getattribute_2 _ _) (meets_getattribute_miss_list a xs k sl "keys" _ rS (by decide +kernel) (by decide)) ⟨hx,hA,fun h' tk' e hx'=>?_⟩)|wp_step))
 obtain ⟨t',u',he⟩:=hx'.there
 have hTe:(⟨h',g,d,tk',os⟩:Shared).TypeIs (.ref e) "AttributeError":=⟨_,he,rfl⟩
 show wpAny _ _ (getattributeRaised _ _ _ _ _ _ _) _ _ _
 unfold getattributeRaised
 repeat (any_goals (first|assumption|wp_step))
 exact h _ _ hx'.keeps
end Zp
namespace Zp
open PySem
theorem pI:entryFor table "dict.update.loop"=some Builtin.«dict.update.loop»:=entryFor_of_tree (by kernel_rfl)
theorem i3:plainId "dict.update.loop"=true:=by decide +kernel
end Zp
namespace Fl
open PySem L2 PyProof.Rows
def kD(p:PyData×PyData):PyData:=.tuple [p.1,p.2]
theorem zP{K:Frag}{F:Hp}{v:V}{p:PyData×PyData}(h:DatV K F v (kD p)):∃ t x y,v=.ref t/\SqT K F t [x,y]/\DatV K F x p.1/\DatV K F y p.2:=by
 unfold kD at h
 cases h with
 | tup hs hd=>
  cases hd with
  | cons h1 t1=>
   cases t1 with
   | cons h2 t2=>
    cases t2
    exact ⟨_,_,_,rfl,hs,h1,h2⟩
section
variable{X:Cx}{pins:List (Addr×Obj)}{σ:L2.St}
theorem zQ{H:Hp}{s:Shared}{a:Addr}{es:List Ent}{k:PyData}{kv v:V}{ku u:Value}{A:Around}{E:Value->Shared->Prop}{Q:Unit->Shared->Prop}(hu:A.units+9 < cLine)(D:DicAt X H a es k kv)(I:Inv X pins σ H s)(rk:aR kv ku)(rv:aR v u)(hz:es.length<=sizeLine)(h:∀ ep s',Inv X pins σ (upd H a (bL X.w a (f9 es k kv v) ep)) s'->Q () s') :
  wpAny (model X.prog X.w) A (dictSet a ku u) Q E s:=by
 obtain ⟨hd,⟨b,xs,rfl,rfl,hx,hk,dd⟩|⟨kk,xs,rfl,rfl,hx,hk,dd⟩⟩:=D.cases I rk
 ·have hl:xs.length<=sizeLine:=by rw[<-Paired.length hx];exact hz
  refine wpAny_dictSet_heap (a:=b) (show (eQ X.prog X.w).room A from hu) hk dd (fun h' dd' hs=>?_) hl
  obtain ⟨q',ar,ep,hq,h2,h3,h4,_,h5⟩:=dd'
  obtain ⟨ep0,hO⟩:=D.o
  refine h ep _ (iE I (by rw[hO];exact True.intro) hs ⟨q',hq⟩ (eY hd ⟨q',ar,hq,h2,h3,?_⟩))
  rw[h4]
  exact jS (uJ rv hx)
 ·have hl:xs.length<=sizeLine:=by rw[<-Paired.length hx];exact hz
  refine wpAny_dictSet_pairs hk dd (fun h' dd' hs=>?_) hl
  obtain ⟨q',ar,ep,hq,h2,h3,h4,h5,_⟩:=dd'
  obtain ⟨ep0,hO⟩:=D.o
  refine h ep _ (iE I (by rw[hO];exact True.intro) hs ⟨q',hq⟩ (eY hd ⟨q',ar,hq,h2,h3,?_⟩))
  exact jT (uK rv hx) h5 fun en hen=>h4 en (by simpa using hen)
theorem zR{p it l:Addr}{F:Hp}{ys:List V}{A:Around}{R:Result->Shared->Prop}(hA:A.handled=none)(hu:A.units+11 < cLine)(hpi:p≠it)(hli:l≠it)(hlp:l≠p)(kvs:List (PyData×PyData)):∀ (i:Nat) (acc res:List (PyData×PyData)) (es:List Ent) (ep:Nat) (H:Hp) (s:Shared),
  Inv X pins σ H s->aF F H->F p=none->H p=some (bL X.w p es ep)->MapRel X.K F es acc->DatVs X.K F (ys.drop i) (kvs.map kD)->SqL X.K H l ys->eI X pins H it->s.heap.IsListIter it l i->i<=ys.length->c7 acc kvs=.ok res->
  (∀ es' ep' s',Inv X pins σ (upd H p (bL X.w p es' ep')) s'->MapRel X.K F es' res->R (.ok (.ret .none)) s')->codeAny (model X.prog X.w) A (.builtin "dict.update.loop" ⟨[.ref p,.ref it,rawInt (i:Int),.none],[]⟩) R s:=by
 induction kvs with
 | nil=>
  intro i acc res es ep H s I sf hf hp m d hl fp hit hi e q
  have hlen:ys.length<=i:=by
   have:=d.length
   rw[List.length_drop] at this
   simp at this;omega
  obtain ⟨its,rv,pl,hz⟩:=I.list hl
  have hvl:=rv.length
  have W:=(Walks.list (prog:=X.prog) (w:=X.w) (A:=A.in1) (by exact hA) it l hli its.toArray).toS
  refine codeAny_builtin Zp.pI ?_
  rw[Around.under_plainId Zp.i3 _]
  show wpAny _ A.in1 (pyNext (.ref it) >>= _) _ _ s
  have hii:i=its.toArray.size:=by simp;omega
  refine wpAny_bind (W.done s _ _ ⟨by rw[<-hii];exact hit,pl.isList⟩ fun s' M=>?_)
  obtain ⟨hp',g,dd,tk,os⟩:=s'
  obtain ⟨m1,m2,m3,m4,m5⟩:=M
  cases m2;cases m3;cases m4
  obtain ⟨f0,f1,f2,f3,f4,f5⟩:=fp
  have I1:Inv X pins σ H ({s with heap:=hp',toks:=tk}:Shared):=I.turned (fun b o hb e=>m1 b o (by simpa using hb) e) f0 f1 f3 f4 f5
  cases e
  have hu2:upd H p (bL X.w p es ep)=H:=by
   funext x
   by_cases z:x=p
   ·subst z;rw[aS,hp]
   ·rw[aK z]
  refine wpAny_bind (m:=Builtin.Dict.addKeywords p []) (wpAny_pure (wpAny_pure ?_))
  exact q es ep _ (by rw[hu2];exact I1) m
 | cons kv t ih=>
  intro i acc res es ep H s I sf hf hp m d hl fp hit hi e q
  obtain ⟨y,ys',hdr,d1,d2⟩:∃ y ys',ys.drop i=y::ys'/\DatV X.K F y (kD kv)/\DatVs X.K F ys' (t.map kD):=by
   rw[List.map_cons] at d
   generalize ys.drop i=zz at d
   cases d with
   | cons a b=>exact ⟨_,_,rfl,a,b⟩
  have hy:ys[i]? = some y:=by
   have:=congrArg (fun l=>l[0]?) hdr
   simpa using this
  have hil:=(List.getElem?_eq_some_iff.mp hy).1
  have hdr2:ys.drop (i+1)=ys':=by
   have:=congrArg List.tail hdr
   rw[List.tail_drop] at this
   exact this
  obtain ⟨its,rv,pl,hz⟩:=I.list hl
  have hvl:=rv.length
  obtain ⟨u,hu1,ru⟩:=rv.get hy
  have W:=(Walks.list (prog:=X.prog) (w:=X.w) (A:=A.in1) (by exact hA) it l hli its.toArray).toS
  refine codeAny_builtin Zp.pI ?_
  rw[Around.under_plainId Zp.i3 _]
  show wpAny _ A.in1 (pyNext (.ref it) >>= _) _ _ s
  refine wpAny_bind (W.item i s _ _ (by simp;omega) ⟨hit,pl.isList⟩ fun v s' hv St M=>?_)
  obtain ⟨hp',g,dd,tk,os⟩:=s'
  obtain ⟨m1,m2,m3,m4,m5⟩:=M
  cases m2;cases m3;cases m4
  have hv:v=u:=by
   simp only[List.getElem?_toArray] at hv
   rw[hu1] at hv
   exact (Option.some.inj hv).symm
  subst hv
  obtain ⟨tt,x1,y1,rfl,hsq,dk,dv⟩:=zP d1
  cases (show v=Value.ref tt from ru)
  have fp':=fp
  obtain ⟨f0,f1,f2,f3,f4,f5⟩:=fp
  have I1:Inv X pins σ H ({s with heap:=hp',toks:=tk}:Shared):=I.turned (fun b o hb e=>m1 b o (by simpa using hb) e) f0 f1 f3 f4 f5
  obtain ⟨its2,rv2,⟨ot,ho,hcl,nn,hdt⟩,_⟩:=I1.tuple (hsq.same sf)
  obtain ⟨ku,vu,hits,rk,rvv⟩:∃ ku vu,its2=[ku,vu]/\aR x1 ku/\aR y1 vu:=by
   cases rv2 with
   | cons a b=>
    cases b with
    | cons c e=>
     cases e
     exact ⟨_,_,rfl,a,c⟩
  subst hits
  have hty:({s with heap:=hp',toks:=tk}:Shared).TypeIs (.ref tt) "tuple":=⟨ot,ho,hcl⟩
  unfold c7 at e
  split at e
  ·rename_i hs
   have hob:∀ b∈[it],∃ o,({s with heap:=hp',toks:=tk}:Shared).heap.get? b=some o/\∀ v,o.data≠.cell v:=fun b hb=>by
    rw[List.mem_singleton.mp hb]
    obtain ⟨o,e1,e2,e3⟩:=St.1
    exact ⟨o,e1,fun v z=>by rw[e3] at z;cases z⟩
   have I2:=I1.pinned (fp:=[it]) (fun b hb=>by rw[List.mem_singleton.mp hb];exact fp') hob
   have D:DicAt X H p es kv.1 x1:=⟨⟨ep,hp⟩,fun e he=>(gU m.k1 m.k2 e he).same sf,by rw[m.k1];exact m.nd,dk.same sf,by rw[m.k1];exact hs.1⟩
   have hel:es.length<=sizeLine:=by
    have:es.length=acc.length:=by simpa using congrArg List.length m.k1
    rw[this,cD];exact hs.2
   refine wpAny_bind (wpAny_holding (wpAny_bind (wpAny_tryCatch ?_)))
   unfold Builtin.Dict.pairItems
   refine wpAny_bind (wpAny_typeOf hty (wpAny_bind (wpAny_seqItems ho hdt (wpAny_pure ?_))))
   show wpAny _ _ (holding [ku,vu] (dictSet p ku vu)) _ _ _
   refine wpAny_holding (zQ (A:=A.in1) (by show A.units+1+9 < cLine;omega) D I2 rk rvv hel fun ep1 s2 I3=>?_)
   obtain ⟨o,e1,e2,e3⟩:=St.1
   have hit2:s2.heap.IsListIter it l (i+1):=⟨o,(I3.pin (it,o) (List.mem_append_right _ (List.mem_append_right _ (fS (List.mem_singleton.mpr rfl) e1)))).1,e2,e3⟩
   refine wpAny_pure ⟨plainId_quiet Zp.i3 _,?_⟩
   have m':=m.put dk dv
   have sf':aF F (upd H p (bL X.w p (f9 es kv.1 x1 y1) ep1)):=fun a o z=>by rw[aK (bK z hf)];exact sf a o z
   have hl':SqL X.K (upd H p (bL X.w p (f9 es kv.1 x1 y1) ep1)) l ys:=by
    rcases hl with (h|⟨o,h⟩)|h
    ·exact .inl (.inl (by rw[aK hlp];exact h))
    ·exact .inl (.inr ⟨o,by rw[aK hlp];exact h⟩)
    ·exact .inr h
   refine ih (i+1) _ res _ _ _ s2 I3.unpinned sf' hf aS m' (by rw[hdr2];exact d2) hl' ⟨by rw[aK (Ne.symm hpi)];exact f0,f1,f2,f3,f4,f5⟩ hit2 (by omega) e fun es' ep' s'' I'' m''=>?_
   rw[lI] at I''
   exact q es' ep' s'' I'' m''
  ·cases e
def xH(X:Cx):List V->Hp->VK->Prop:=fun xs H Q=>∃ l ys F kvs res,xs=[.ref l]/\SqL X.K H l ys/\aF F H/\DatVs X.K F ys (kvs.map kD)/\c7 [] kvs=.ok res/\∀ p es' ep',H p=none->MapRel X.K F es' res->Q (.ref p) (upd H p (bL X.w p es' ep'))
theorem uW(hc:X.calm=true)(hu:X.A.units+64 < cLine):dY X (.type "dict") (xH X):=by
 intro pins s σ H xs us Q I r h
 obtain ⟨l,ys,F,kvs,res,rfl,hl,sf,d,e,q⟩:=h
 obtain ⟨u,rfl,ru⟩:=iX r
 cases (show u=Value.ref l from ru)
 have hp0:H s.heap.objs.size=none:=I.hok.fresh (Nat.le_refl _)
 have hA:X.A.handled=none:=I.ok.hd hc
 obtain ⟨its,rv,pl,hz⟩:=I.list hl
 have hll:l < s.heap.objs.size:=by obtain ⟨o,e,_⟩:=pl.isList;exact Heap.lt_size e
 refine callType_codes (Q₁:=fun obj s₁=>obj=.ref s.heap.objs.size/\s₁={s with heap:=s.heap.push {cls:=.type "dict",data:=.dict #[]}}) PySem.F.kt_called_dict (PySem.F.kt_typeCall_dict_1 _) PySem.F.entry_dict_init (kt_code_dict_new _ ⟨rfl,rfl⟩) fun obj s₁ hs₁=>?_
 obtain ⟨rfl,rfl⟩:=hs₁
 have hD:(s.heap.push {cls:=.type "dict",data:=.dict #[]}).get? s.heap.objs.size=some {cls:=.type "dict",data:=.dict #[]}:=Heap.get?_push_size _ rfl
 have hty:({s with heap:=s.heap.push {cls:=.type "dict",data:=.dict #[]}}:Shared).TypeIs (.ref s.heap.objs.size) "dict":=⟨_,hD,rfl⟩
 have I1:=I.laid (a:=s.heap.objs.size) (o:=bL X.w s.heap.objs.size [] 0) (t':=s.toks) (fun _ _ q=>Heap.get?_push_of_some {cls:=.type "dict",data:=.dict #[]} q) (Nat.le_refl _)
  (eY (beq_eq_false_iff_ne.mpr (Ne.symm (Nat.ne_of_lt I.big))) ⟨_,#[],hD,⟨rfl,rfl,rfl⟩,rfl,.nil⟩)
 refine ⟨hty,PySem.F.args_dict_init_2 _ _,?_⟩
 have hl1:SqL X.K (upd H s.heap.objs.size (bL X.w s.heap.objs.size [] 0)) l ys:=by
  rcases hl with (h|⟨o,h⟩)|h
  · exact .inl (.inl (by rw [aK (Nat.ne_of_lt hll)]; exact h))
  · exact .inl (.inr ⟨o, by rw [aK (Nat.ne_of_lt hll)]; exact h⟩)
  · exact .inr h
 generalize hpp:s.heap.objs.size=p at *
 have hsz:(s.heap.push {cls:=.type "dict",data:=.dict #[]}).objs.size=p+1:=by rw[Heap.size_push,hpp]
 generalize s.heap.push {cls:=.type "dict",data:=.dict #[]}=hh at *
 obtain ⟨its1,rv1,pl1,hz1⟩:=I1.list hl1
 unfold Builtin.«dict.__init__» Builtin.Dict.selfAndRest
 refine wpAny_bind (wpAny_bind (wpAny_notOrdered_dict hty (wpAny_bind (wpAny_pure (wpAny_pure ?_)))))
 show wpAny _ _ (Builtin.Dict.updateFrom "dict.__init__" p (.ref l) [] .none) _ _ _
 unfold Builtin.Dict.updateFrom
 obtain ⟨⟨oc,od,odat,osl⟩,nl,hol,hcl,hod,hdl⟩:=pl1
 cases hcl
 cases hod
 cases hdl
 have htl:({s with heap:=hh}:Shared).TypeIs (.ref l) "list":=⟨_,hol,rfl⟩
 refine wpAny_bind (wpAny_typeOf htl ?_)
 show wpAny _ _ (getAttr? (.ref l) "keys" >>= _) _ _ _
 refine wpAny_bind (Zp.oN (A:=X.A.in1.in1) hol hA fun h' tk kp=>?_)
 have I2:Inv X pins σ (upd H p (bL X.w p [] 0)) ({s with heap:=h',toks:=tk}:Shared):=I1.kept (t':=tk) kp
 have hL2:h'.IsList l its1.toArray:=⟨_,kp _ _ hol,rfl,_,rfl⟩
 refine wpAny_bind (wpAny_rule (wpAny_bind (wpAny_pyIter_list hL2 ?_)))
 have fz:(upd H p (bL X.w p [] 0)) h'.objs.size=none:=I2.hok.fresh (Nat.le_refl _)
 have hpz:p < h'.objs.size:=by
  have:=kp _ _ hD
  exact Heap.lt_size this
 have hlz:l < h'.objs.size:=Heap.lt_size (kp _ _ hol)
 have fp:=I2.fpOk (H':=upd H p (bL X.w p [] 0)) (Nat.le_refl h'.objs.size) fz
 have I3:Inv X pins σ (upd H p (bL X.w p [] 0)) ({s with heap:=h'.push {cls:=.type "list_iterator",data:=.fields #[.ref l,.int 0 0]},toks:=tk}:Shared):=I2.kept (t':=tk) fun b o e=>Heap.get?_push_of_some _ e
 have hfp:F p=none:=aW sf hp0
 have sf1:aF F (upd H p (bL X.w p [] 0)):=fun a o z=>by rw[aK (bK z hfp)];exact sf a o z
 refine wpAny_pure ⟨plainId_quiet Zp.i3 _,?_⟩
 refine zR (A:=X.A.in1) (p:=p) (it:=h'.objs.size) (l:=l) (F:=F) (ys:=ys) hA (by show X.A.units+1+11 < cLine;omega) (Nat.ne_of_lt hpz) (Nat.ne_of_lt hlz) (Nat.ne_of_lt hll) kvs 0 [] res [] 0 _ _ I3 sf1 hfp aS ⟨rfl,.nil,.nil,List.nodup_nil⟩ (by rw[List.drop_zero];exact d) hl1 fp ⟨_,Heap.get?_push_size _ rfl,rfl,rfl⟩ (Nat.zero_le _) e fun es' ep' s' I' m'=>?_
 rw[lI] at I'
 exact ⟨rfl,.ref p,_,I',rfl,q p es' ep' hp0 m'⟩
end
end Fl
namespace Fl
open PySem L2 PyProof.Rows
def gC:List PyData->Option (List (PyData×PyData))
 | []=>some []
 | .tuple [k,v]::t=>(gC t).map fun r=>(k,v)::r
 | _=>none
theorem l5:∀ {ds:List PyData} {kvs:List (PyData×PyData)},gC ds=some kvs->ds=kvs.map kD
 | [],kvs,h=>by cases h;rfl
 | d::t,kvs,h=>by
  unfold gC at h
  split at h
  ·rename_i h0;cases h0
  ·rename_i k v t' h0
   cases h0
   obtain ⟨r,hr,rfl⟩:=Option.map_eq_some_iff.mp h
   rw[List.map_cons,l5 hr];rfl
  ·cases h
noncomputable def nS(i:Nat)(f:Sg->R (List PyData)):Sg->R Fw:=fun ρ=>(f ρ).bind fun ds=>match gC ds with
 | some kvs=>(c7 [] kvs).bind fun res=>.ok (.nx (ρ.set i (some (.m res))))
 | none=>.bad
section
variable{X:Cx}{c:Ct}{E:XK}{st:Stmt}
theorem zS{i:Nat}{f:Sg->R (List PyData)}(hK:X.K=c.K)(hW:X.w=c.w)(h:PS X st (gY (tCB (xH X) (cS (tV (mE c) c E f) eJ)) (gE i))):PSf X c E st (nS i f):=PS.imp h fun D σ H ⟨ρ,F,ab,k⟩=>by
 refine ⟨ρ,F,ab,(Rk.bind k).imp fun ds _ q v F1 H1 s1 r1=>?_⟩
 obtain ⟨l,vs,rfl,hl0,hl1,hlf,dv⟩:=r1
 split at q
 ·rename_i kvs hkv
  rw[l5 hkv] at dv
  cases e:c7 [] kvs with
  | bad=>rw[e] at q;exact q.elim
  | ex x=>exact absurd e (k6 _ _ _)
  | ok res=>
   rw[e] at q
   refine ⟨l,vs,F1,kvs,res,rfl,SqL.of hl1,s1.fh,by rw[hK];exact dv,e,fun p es' ep' hp m=>?_⟩
   have hf:F1 p=none:=aW s1.fh hp
   have hp0:H p=none:=aW s1.hh hp
   have e3:Ext F H F1 (upd H1 p (bL X.w p es' ep')):=s1.trans (Ext.own s1.fh hp)
   rw[hW] at e3 ⊢
   rw[hK] at m
   exact Rk.ok q _ F1 _ s1.ff (ab.setM e3 hp0 aS hf m)
 ·exact q.elim
end
end Fl
namespace Zp
open PySem
structure Jk(s0:Heap)(d it S:Addr)(ar:Array DictEntry)(ep:Nat)(acc:Array Value)(h:Heap):Prop where
 size:acc.size<=ar.size
 told:acc.toList=(ar.toList.take acc.size).map (·.key)
 iter:h.IsKeyIter it d acc.size ar.size ep
 raw:Raw h d ar ep
 keep:∀ c o,c≠it->c≠S->s0.get? c=some o->h.get? c=some o
theorem zT:typeLookup (.type "dict") "__len__"=pure (some (.builtin "dict.__len__")):=by rw[typeLookup_type,builtinLookup_eq_fast];kernel_rfl
theorem xI{prog:Program}{w:World}{A:Around}{E:Value->Shared->Prop}{s:Shared}{d:Addr}{ar:Array DictEntry}{ep:Nat}{Q:Value->Shared->Prop}(hh:A.handled=none)(hd:(d == sysModules)=false)(hm:Raw s.heap d ar ep)(hn:ar.size<=sizeLine)
  (hQ:∀ h' tk acc c,(∀ b o,s.heap.get? b=some o->h'.get? b=some o)->k8 h' s.heap.objs.size acc c->acc.toList=ar.toList.map (·.key)->Q (.ref s.heap.objs.size) {s with heap:=h',toks:=tk}) :
  wpAny (model prog w) A (call (.type "list") [.ref d]) Q E s:=by
 have hdl:d < s.heap.objs.size:=by obtain ⟨o,ho,_⟩:=hm;exact Heap.lt_size ho
 refine callType_codes (Q₁:=fun obj s₁=>obj=.ref s.heap.objs.size/\s₁={s with heap:=s.heap.push {cls:=.type "list",data:=.seq #[]}}) F.called_list (F.typeCall_list_1 _) F.entry_list_init
  (code_list_new _ ⟨rfl,rfl⟩) fun obj s₁ hs₁=>?_
 obtain ⟨rfl,rfl⟩:=hs₁
 have hS:(s.heap.push {cls:=.type "list",data:=.seq #[]}).get? s.heap.objs.size=some {cls:=.type "list",data:=.seq #[]}:=Heap.get?_push_size _ rfl
 refine ⟨⟨_,hS,rfl⟩,F.args_list_init_2 _ _,?_⟩
 generalize hSS:s.heap.objs.size=S at *
 show wpAny _ _ (do let old <-Builtin.List.listItems (.ref S);Builtin.List.listUpdate (.ref S) (fun _=>#[]);letGo old.toList.reverse;Builtin.List.listExtendWith (.ref S) (.ref d) .none) _ _ _
 refine wpAny_bind ?_
 unfold Builtin.List.listItems
 refine wpAny_bind (wpAny_seqItems hS rfl (wpAny_pure ?_))
 show wpAny _ _ (updateSeq S (fun _=>#[]) >>= fun _=>letGo (#[]:Array Value).toList.reverse >>= fun _=>Builtin.List.listExtendWith (.ref S) (.ref d) .none) _ _ _
 refine wpAny_bind (wpAny_updateSeq hS rfl (wpAny_bind (wpAny_letGo ?_)))
 have g1:=Heap.get?_update_self (Obj.mapSeq (fun _=>(#[]:Array Value))) hS rfl
 have g2:∀ c o,c≠S->s.heap.get? c=some o->((s.heap.push {cls:=.type "list",data:=.seq #[]}).update S (Obj.mapSeq (fun _=>(#[]:Array Value)))).get? c=some o:=
  fun c o hc e=>(Heap.get?_update_other _ _ (Ne.symm hc)).trans (Heap.get?_push_of_some _ e)
 have g3:((s.heap.push {cls:=.type "list",data:=.seq #[]}).update S (Obj.mapSeq (fun _=>(#[]:Array Value)))).objs.size=S+1:=by rw[Heap.size_update,Heap.size_push,hSS]
 generalize (s.heap.push {cls:=.type "list",data:=.seq #[]}).update S (Obj.mapSeq (fun _=>(#[]:Array Value)))=hp at *
 have nd:d≠S:=Nat.ne_of_lt hdl
 have hm1:Raw hp d ar ep:=by obtain ⟨o,ho,r⟩:=hm;exact ⟨o,g2 _ _ nd ho,r⟩
 have hty:(({s with heap:=hp}:Shared)).TypeIs (.ref d) "dict":=by obtain ⟨o,ho,hc,_⟩:=hm1;exact ⟨o,ho,hc.1⟩
 unfold Builtin.List.listExtendWith
 refine wpAny_bind (wpAny_typeOf hty ?_)
 have e1:Builtin.List.listSameRef (.ref S) (.ref d)=false:=by simp[Builtin.List.listSameRef,Ne.symm nd]
 simp only[e1,show (Value.type "dict" == Value.type "list")=false by decide,show (Value.type "dict" == Value.type "tuple")=false by decide,Bool.or_false,Bool.false_eq_true,if_false]
 refine wpAny_bind (rA (s:={s with heap:=hp}) hd hm1 (wpAny_bind (wpAny_holding ?_)))
 have hit0:(hp.push {cls:=.type "dict_keyiterator",data:=.fields #[.ref d,.int 0 0,.int ar.size 0,.int ep 0]}).IsKeyIter hp.objs.size d 0 ar.size ep:=⟨_,Heap.get?_push_size _ rfl,rfl,rfl⟩
 have kp0:∀ c o,hp.get? c=some o->(hp.push {cls:=.type "dict_keyiterator",data:=.fields #[.ref d,.int 0 0,.int ar.size 0,.int ep 0]}).get? c=some o:=fun c o e=>Heap.get?_push_of_some _ e
 rw[g3] at hit0
 show wpAny _ _ (Builtin.List.listLengthHint (.ref d)) _ _ ({s with heap:=hp.push {cls:=.type "dict_keyiterator",data:=.fields #[.ref d,.int 0 0,.int ar.size 0,.int ep 0]}}:Shared)
 generalize hp.push {cls:=.type "dict_keyiterator",data:=.fields #[.ref d,.int 0 0,.int ar.size 0,.int ep 0]}=hq at *
 have hm2:Raw hq d ar ep:=by obtain ⟨o,ho,r⟩:=hm1;exact ⟨o,kp0 _ _ ho,r⟩
 have hty2:(({s with heap:=hq}:Shared)).TypeIs (.ref d) "dict":=by obtain ⟨o,ho,hc,_⟩:=hm2;exact ⟨o,ho,hc.1⟩
 unfold Builtin.List.listLengthHint
 refine wpAny_bind (wpAny_specialOf hty2 zT ?_)
 have hsp:splitId "dict.__len__"=some ("dict","__len__"):=by decide +kernel
 simp only[hsp]
 refine wpAny_bind (wpAny_isInstance (b:=true) hty2 isSubtype_dict_dict ?_)
 simp only[Bool.not_true,Bool.false_eq_true,if_false]
 rw[if_pos (by decide +kernel)]
 refine wpAny_bind (wpAny_typeOf hty2 (wpAny_pure ?_))
 simp only[Bool.false_or]
 rw[if_pos (by decide +kernel)]
 have hS2:=kp0 _ _ g1
 rw[g3]
 refine wpAny_bind (wpAny_rule (wpAny_bind ?_))
 show wpAny _ _ (updateSeq S (·.push .none) >>= fun _=>updateSeq S (·.pop)) _ _ _
 refine wpAny_bind (wpAny_updateSeq hS2 rfl ?_)
 have g4:=Heap.get?_update_self (Obj.mapSeq (·.push Value.none)) hS2 rfl
 refine wpAny_updateSeq g4 rfl ?_
 have g5:=Heap.get?_update_self (Obj.mapSeq (·.pop)) g4 rfl
 have g6:∀ c o,c≠S->hq.get? c=some o->((hq.update S (Obj.mapSeq (·.push Value.none))).update S (Obj.mapSeq (·.pop))).get? c=some o:=
  fun c o hc e=>(Heap.get?_update_other _ _ (Ne.symm hc)).trans ((Heap.get?_update_other _ _ (Ne.symm hc)).trans e)
 generalize (hq.update S (Obj.mapSeq (·.push Value.none))).update S (Obj.mapSeq (·.pop))=hr at *
 have nit:S+1≠S:=Nat.succ_ne_self S
 refine wpAny_pure ⟨plainId_quiet F.plain_extend_loop _,rD (A:=A.in1) (I:=S+1) (S:=S) (n:=ar.size) (Jk s.heap d (S+1) S ar ep) (fun acc h=>acc.toList=ar.toList.map (·.key)/\∀ c o,c≠S+1->c≠S->s.heap.get? c=some o->h.get? c=some o) hn (fun acc h J=>J.size) (fun acc h h' J hsz hk=>?_) (fun acc s' c Q' E' hlt J hL hq'=>?_) (fun acc s' c Q' E' heq J hL hq'=>?_) ar.size _ #[] _ (by simp) ?_ g5 fun h' tk acc c J hsz hL=>?_⟩
 ·obtain ⟨o,ho,r⟩:=J.iter
  obtain ⟨o2,ho2,r2⟩:=J.raw
  exact ⟨J.size,J.told,⟨o,hk _ _ nit ho,r⟩,⟨o2,hk _ _ nd ho2,r2⟩,fun c o c1 c2 e=>hk _ _ c2 (J.keep c o c1 c2 e)⟩
 ·have hx:ar[acc.size]? = some ar[acc.size]:=Array.getElem?_eq_getElem hlt
  refine rB J.iter J.raw hx fun h2 st sb=>?_
  have hd1:d≠S+1:=fun z=>by rw[z] at hdl;exact absurd hdl (Nat.not_lt.mpr (Nat.le_succ S))
  refine hq' _ h2 s'.toks ⟨by rw[Array.size_push];omega,?_,by rw[Array.size_push];exact st,?_,fun c o c1 c2 e=>sb.extBut _ _ c1 (J.keep c o c1 c2 e)⟩ (sb.extBut _ _ (Ne.symm nit) hL)
  ·rw[Array.toList_push,J.told,Array.size_push,List.take_add_one,List.map_append]
   congr 1
   rw[Array.getElem?_toList,hx];rfl
  ·obtain ⟨o2,ho2,r2⟩:=J.raw
   exact ⟨o2,sb.extBut _ _ hd1 ho2,r2⟩
 ·refine tD (A:=A.in1.in1) hh J.iter J.raw (by omega) fun h2 eb=>?_
  refine hq' h2 s'.toks ⟨?_,fun c o c1 c2 e=>eb c o c1 (J.keep c o c1 c2 e)⟩ (eb _ _ (Ne.symm nit) hL)
  have:=J.told
  rw[heq,List.take_of_length_le (by simp)] at this
  exact this
 ·obtain ⟨o,ho,r⟩:=hit0
  obtain ⟨o2,ho2,r2⟩:=hm2
  exact ⟨Nat.zero_le _,by simp,⟨o,g6 _ _ nit ho,r⟩,⟨o2,g6 _ _ nd ho2,r2⟩,fun c o c1 c2 e=>g6 _ _ c2 (kp0 _ _ (g2 _ _ c2 e))⟩
 ·refine ⟨rfl,hQ h' tk acc c (fun b o e=>?_) hL J.1⟩
  have hb:=Heap.lt_size e
  rw[hSS] at hb
  exact J.2 b o (Nat.ne_of_lt (Nat.lt_succ_of_lt hb)) (Nat.ne_of_lt hb) e
end Zp
namespace Fl
open PySem L2 PyProof.Rows
section
variable{X:Cx}{c:Ct}{E:XK}{e:Expr}
theorem uX(hc:X.calm=true):dY X (.type "list") (fun xs H Q=>∃ d es ep,xs=[.ref d]/\H d=some (bL X.w d es ep)/\es.length<=16777216/\∀ l,H l=none->Q (.ref l) (upd H l (.lst (es.map (·.2.1))))):=by
 intro pins s σ H xs us Q I r h
 obtain ⟨d,es,ep,rfl,hO,hl,q⟩:=h
 obtain ⟨u,rfl,ru⟩:=iX r
 cases (show u=Value.ref d from ru)
 obtain ⟨hd,ar,hr,hp⟩:=lT I hO
 have hsz:es.length=ar.size:=by rw[Paired.length hp];simp
 refine Zp.xI (I.ok.hd hc) hd hr (by rw[<-hsz,cD];exact hl) fun h' tk acc k kp hL hacc=>?_
 refine ⟨.ref s.heap.objs.size,_,I.laid (t':=tk) (o:=.lst (es.map (·.2.1))) kp (Nat.le_refl _) ⟨by rw[List.length_map,cD];exact hl,acc.toList,k,?_,by simpa using hL⟩,rfl,q _ (I.hok.fresh (Nat.le_refl _))⟩
 rw[hacc]
 refine lM (by simp[hsz]) fun i x y h1 h2=>?_
 rw[List.getElem?_map] at h1 h2
 cases e1:es[i]? with
 | none=>rw[e1] at h1;cases h1
 | some en=>
  obtain ⟨y',g1,g2,g3,g4⟩:=j6 hp e1
  rw[e1] at h1
  rw[g1] at h2
  cases h1
  cases h2
  exact g3
noncomputable def pS(f:Sg->R A):Sg->R (List PyData):=fun ρ=>(f ρ).bind fun a=>match a with
 | .f kvs=>if kvs.length<=16777216 then .ok (kvs.map (·.1)) else .bad
 | _=>.bad
theorem zU{f:Sg->R A}(hW:X.w=c.g.w)(hW2:X.w=c.w)(h:PE X e (tCB (fun xs H Q=>∃ d es ep,xs=[.ref d]/\H d=some (bL X.w d es ep)/\es.length<=16777216/\∀ l,H l=none->Q (.ref l) (upd H l (.lst (es.map (·.2.1))))) (cS (tV (uL c) c E f) eJ))):PN X c E e (pS f):=PE.imp h fun σ H Q ⟨ρ,F,ab,k⟩=>by
 refine ⟨ρ,F,ab,(Rk.bind k).imp fun a _ q v F1 H1 s1 r1=>?_⟩
 split at q
 ·rename_i kvs _
  split at q
  ·rename_i hn
   obtain ⟨p,es,rfl,⟨ep,h2⟩,m⟩:=r1
   have hl:es.length=kvs.length:=by simpa using congrArg List.length m.k1
   refine ⟨p,es,ep,rfl,by rw[hW];exact s1.fh _ _ h2,by omega,fun l hl0=>?_⟩
   have e2:Ext F1 _ F1 (upd H1 l (.lst (es.map (·.2.1)))):=Ext.own s1.fh hl0
   exact Rk.ok q _ F1 _ (s1.trans e2) ⟨l,_,rfl,aW s1.hh hl0,aS,aW s1.fh hl0,m.k2⟩
  ·exact q.elim
 ·exact q.elim
end
end Fl
namespace Zp
open PySem
section
variable{prog:Program}{w:World}{A:Around}{E:Value->Shared->Prop}{s:Shared}
theorem pJ{z TI TO:Addr}{f0:Value}{bb:Bool}{Q:Bool->Shared->Prop}(hz:dI s.heap z TI TO f0 (.bool bb))(hf:f0=.none\/∃ T:Addr,f0=rawInt T/\s.heap.get? T=none)(h:Q true s):wpAny (model prog w) A (Builtin.SmallTypes.ownedTupleIsFree (.ref z)) Q E s:=by
 unfold Builtin.SmallTypes.ownedTupleIsFree
 refine wpAny_bind (wpAny_field hz rfl (x:=f0) rfl ?_)
 rcases hf with rfl|⟨T,rfl,hT⟩
 ·exact wpAny_pure h
 ·show wpAny _ _ (loadIfAlive ((T:Int)).toNat >>= _) _ _ s
  refine wpAny_bind (rC ?_)
  rw[show ((T:Int)).toNat=T by omega,hT]
  exact wpAny_pure h
theorem xJ{z TI TO i1 i2:Addr}{f1 f2:List Addr}{n1 n2 i:Nat}{P1 P2:Nat->Value->Prop}{S1 S2:Nat->Heap->Prop}{a b f0:Value}{bb:Bool}{Q:Value->Shared->Prop}(D:Apart z TI TO i1 i2 f1 f2)
  (D1:Draws prog w A i1 f1 n1 P1 S1) (D2:Draws prog w A i2 f2 n2 P2 S2)
  (hz:dI s.heap z TI TO f0 (.bool bb)) (hfr:f0=.none\/∃ T:Addr,f0=rawInt T/\s.heap.get? T=none) (hTI:IsPair s.heap TI (.ref i1) (.ref i2)) (hTO:IsPair s.heap TO a b) (h1:S1 i s.heap) (h2:S2 i s.heap) (l1:i < n1) (l2:i < n2)
  (hQ:∀ x y h' tk,P1 i x->P2 i y->IsZip h' z TI TO (rawInt s.heap.objs.size)->IsPair h' TO x y->S1 (i+1) h'->S2 (i+1) h'->IsPair h' s.heap.objs.size x y->h'.objs.size=s.heap.objs.size+1->
   (∀ c o,c≠z->c≠TO->c≠i1->c≠i2->s.heap.get? c=some o->h'.get? c=some o)->Q (.ref s.heap.objs.size) {s with heap:=h',toks:=tk}) :
  wpAny (model prog w) A (Builtin.«zip.__next__» ⟨[.ref z],[]⟩) (fun fin s'=>∃ v,fin=.done (.ret v)/\Q v s') E s:=by
 show wpAny _ _ (field (.ref z) 2 >>= _) _ _ _
 refine wpAny_bind (wpAny_field hz rfl (x:=.bool false) rfl ?_)
 show wpAny _ _ (field (.ref z) 3 >>= _) _ _ _
 refine wpAny_bind (wpAny_field hz rfl (x:=.ref TI) rfl ?_)
 refine wpAny_bind (wpAny_seqItems hTI rfl ?_)
 show wpAny _ _ (Builtin.SmallTypes.ownedTupleIsFree (.ref z) >>= _) _ _ _
 refine wpAny_bind (pJ hz hfr ?_)
 simp only[if_true]
 refine wpAny_bind (wpAny_rule ?_)
 refine wpAny_bind (wpAny_field hz rfl (x:=.ref TO) rfl ?_)
 refine wpAny_bind (wpAny_setField_rec hz (by simp) fun h₁ hz₁ hs₁=>?_)
 replace hz₁:dI h₁ z TI TO .ellipsis (.bool bb):=hz₁
 refine wpAny_bind ?_
 simp only[List.zipIdx_cons,List.zipIdx_nil,List.forIn_cons,List.forIn_nil]
 have fr:∀ {f:List Addr} {c:Addr} {g g':Heap},Heap.SameBut c g g'->c∉f->∀ b∈f,∀ o,g.get? b=some o->g'.get? b=some o:=fun hs hc b hb o e=>hs.extBut _ _ (fun z=>hc (z▸hb)) e
 refine wpAny_bind (wpAny_bind (wpAny_onRaise ?_))
 show wpAny _ _ (Builtin.SmallTypes.nextOf (.ref i1) >>= _) _ _ _
 refine wpAny_bind (D1.item i {s with heap:=h₁} _ _ l1 (D1.frame _ _ _ h1 (fr hs₁ D.z1)) fun x h₂ tk1 px h1₂ hs₂=>wpAny_pure ?_)
 have hTO₂:IsPair h₂ TO a b:=hs₂.extBut _ _ D.TOi1 (hs₁.extBut _ _ D.TOz hTO)
 refine wpAny_bind (wpAny_seqItems hTO₂ rfl ?_)
 refine wpAny_bind (wpAny_updateSeq_pair hTO₂ fun h₃ hTO₃ hs₃=>?_)
 replace hTO₃:IsPair h₃ TO x b:=hTO₃
 refine wpAny_bind (wpAny_letGo (wpAny_pure ?_))
 refine wpAny_bind (wpAny_bind (wpAny_onRaise ?_))
 show wpAny _ _ (Builtin.SmallTypes.nextOf (.ref i2) >>= _) _ _ _
 refine wpAny_bind (D2.item i {s with heap:=h₃,toks:=tk1} _ _ l2 (D2.frame _ _ _ (D2.frame _ _ _ (D2.frame _ _ _ h2 (fr hs₁ D.z2)) (fr hs₂ D.i1f2)) (fr hs₃ D.t2)) fun y h₄ tk2 py h2₄ hs₄=>wpAny_pure ?_)
 have hs₄:Heap.SameBut i2 h₃ h₄:=hs₄
 have hs₂:Heap.SameBut i1 h₁ h₂:=hs₂
 have hTO₄:IsPair h₄ TO x b:=hs₄.extBut _ _ D.TOi2 hTO₃
 refine wpAny_bind (wpAny_seqItems hTO₄ rfl ?_)
 refine wpAny_bind (wpAny_updateSeq_pair hTO₄ fun h₅ hTO₅ hs₅=>?_)
 replace hTO₅:IsPair h₅ TO x y:=hTO₅
 refine wpAny_bind (wpAny_letGo (wpAny_pure (wpAny_pure ?_)))
 refine wpAny_bind (wpAny_seqItems hTO₅ rfl ?_)
 refine wpAny_bind (wpAny_newTuple ?_)
 have hsz:h₅.objs.size=s.heap.objs.size:=by rw[hs₅.1];show h₄.objs.size=_;rw[hs₄.1,hs₃.1];show h₂.objs.size=_;rw[hs₂.1,hs₁.1]
 have hs₃:Heap.SameBut TO h₂ h₃:=hs₃
 have hs₅:Heap.SameBut TO h₄ h₅:=hs₅
 have hz₅:dI h₅ z TI TO .ellipsis (.bool bb):=hs₅.extBut _ _ D.TOz.symm (hs₄.extBut _ _ D.i2z.symm (hs₃.extBut _ _ D.TOz.symm (hs₂.extBut _ _ D.i1z.symm hz₁)))
 have hk₅:∀ c o,c≠z->c≠TO->c≠i1->c≠i2->s.heap.get? c=some o->h₅.get? c=some o:=fun c o c1 c2 c3 c4 e=>
  hs₅.extBut _ _ c2 (hs₄.extBut _ _ c4 (hs₃.extBut _ _ c2 (hs₂.extBut _ _ c3 (hs₁.extBut _ _ c1 e))))
 have h1₅:S1 (i+1) h₅:=D1.frame _ _ _ (D1.frame _ _ _ (D1.frame _ _ _ h1₂ (fr hs₃ D.t1)) (fr hs₄ D.i2f1)) (fr hs₅ D.t1)
 have h2₅:S2 (i+1) h₅:=D2.frame _ _ _ h2₄ (fr hs₅ D.t2)
 have hzlt:z < h₅.objs.size:=Heap.lt_size hz₅
 show wpAny _ _ (Builtin.SmallTypes.ownedTupleHandOut (.ref z) (.ref h₅.objs.size) >>= _) _ _ _
 refine wpAny_bind ?_
 unfold Builtin.SmallTypes.ownedTupleHandOut
 have hz₆:dI (h₅.push {cls:=.type "tuple",data:=.seq #[x,y]}) z TI TO .ellipsis (.bool bb):=Heap.get?_push_of_some _ hz₅
 refine wpAny_bind (wpAny_setField_rec hz₆ (by simp) fun h₇ hz₇ hs₇=>?_)
 replace hz₇:dI h₇ z TI TO (rawInt h₅.objs.size) (.bool bb):=hz₇
 refine wpAny_setField_rec hz₇ (by simp) fun h₈ hz₈ hs₈=>?_
 replace hz₈:IsZip h₈ z TI TO (rawInt h₅.objs.size):=hz₈
 have up:∀ c o,c≠z->h₅.get? c=some o->h₈.get? c=some o:=fun c o c1 e=>hs₈.extBut _ _ c1 (hs₇.extBut _ _ c1 (Heap.get?_push_of_some _ e))
 have hT₈:IsPair h₈ h₅.objs.size x y:=hs₈.extBut _ _ (Nat.ne_of_gt hzlt) (hs₇.extBut _ _ (Nat.ne_of_gt hzlt) (Heap.get?_push_size _ rfl))
 have hz8:h₈.objs.size=h₅.objs.size+1:=by rw[hs₈.1,hs₇.1,Heap.size_push]
 rw[hsz] at hz₈ hT₈ hz8
 refine wpAny_pure ⟨_,rfl,?_⟩
 show Q (.ref h₅.objs.size) _
 rw[hsz]
 exact hQ x y h₈ tk2 px py hz₈ (up _ _ D.TOz hTO₅) (D1.frame _ _ _ h1₅ fun b hb o e=>up b o (fun q=>D.z1 (q▸hb)) e) (D2.frame _ _ _ h2₅ fun b hb o e=>up b o (fun q=>D.z2 (q▸hb)) e) hT₈ hz8 fun c o c1 c2 c3 c4 e=>up c o c1 (hk₅ c o c1 c2 c3 c4 e)
theorem zV{z TI TO i1 i2:Addr}{f1 f2:List Addr}{n1 n2 i:Nat}{P1 P2:Nat->Value->Prop}{S1 S2:Nat->Heap->Prop}{a b f0:Value}{bb:Bool}{Q:Fin->Shared->Prop}(D:Apart z TI TO i1 i2 f1 f2)
  (D1:Draws prog w A i1 f1 n1 P1 S1) (D2:Draws prog w A i2 f2 n2 P2 S2)
  (hz:dI s.heap z TI TO f0 (.bool bb)) (hfr:f0=.none\/∃ T:Addr,f0=rawInt T/\s.heap.get? T=none) (hTI:IsPair s.heap TI (.ref i1) (.ref i2)) (hTO:IsPair s.heap TO a b) (h1:S1 i s.heap) (h2:S2 i s.heap) (hend:i=n1\/(i < n1/\i=n2))
  (hE:∀ h' tk e,(∀ c o,c≠z->c≠TO->c≠i1->c≠i2->s.heap.get? c=some o->h'.get? c=some o)->(∃ o,h'.get? e=some o/\o.cls=.type "StopIteration")->E (.ref e) {s with heap:=h',toks:=tk}) :
  wpAny (model prog w) A (Builtin.«zip.__next__» ⟨[.ref z],[]⟩) Q E s:=by
 show wpAny _ _ (field (.ref z) 2 >>= _) _ _ _
 refine wpAny_bind (wpAny_field hz rfl (x:=.bool false) rfl ?_)
 show wpAny _ _ (field (.ref z) 3 >>= _) _ _ _
 refine wpAny_bind (wpAny_field hz rfl (x:=.ref TI) rfl ?_)
 refine wpAny_bind (wpAny_seqItems hTI rfl ?_)
 show wpAny _ _ (Builtin.SmallTypes.ownedTupleIsFree (.ref z) >>= _) _ _ _
 refine wpAny_bind (pJ hz hfr ?_)
 simp only[if_true]
 refine wpAny_bind (wpAny_rule ?_)
 refine wpAny_bind (wpAny_field hz rfl (x:=.ref TO) rfl ?_)
 refine wpAny_bind (wpAny_setField_rec hz (by simp) fun h₁ hz₁ hs₁=>?_)
 replace hz₁:dI h₁ z TI TO .ellipsis (.bool bb):=hz₁
 refine wpAny_bind ?_
 simp only[List.zipIdx_cons,List.zipIdx_nil,List.forIn_cons,List.forIn_nil]
 have fr:∀ {f:List Addr} {c:Addr} {g g':Heap},Heap.SameBut c g g'->c∉f->∀ b∈f,∀ o,g.get? b=some o->g'.get? b=some o:=fun hs hc b hb o e=>hs.extBut _ _ (fun z=>hc (z▸hb)) e
 refine wpAny_bind (wpAny_bind (wpAny_onRaise ?_))
 show wpAny _ _ (Builtin.SmallTypes.nextOf (.ref i1) >>= _) _ _ _
 rcases hend with rfl|⟨l1,rfl⟩
 ·refine wpAny_bind (D1.done {s with heap:=h₁} _ _ (D1.frame _ _ _ h1 (fr hs₁ D.z1)) fun h₂ e hs₂ he=>?_)
  obtain ⟨oe,hoe,hce⟩:=he
  have hz₂:dI h₂ z TI TO .ellipsis (.bool bb):=hs₂ _ _ D.i1z.symm hz₁
  have hez:e≠z:=fun x=>by subst x;rw[hz₂] at hoe;cases hoe;simp at hce
  refine wpAny_setField_rec hz₂ (by simp) fun h₃ _ hs₃=>hE h₃ s.toks e (fun c o c1 _ c3 _ x=>hs₃.extBut _ _ c1 (hs₂ _ _ c3 (hs₁.extBut _ _ c1 x))) ⟨oe,hs₃.extBut _ _ hez hoe,hce⟩
 ·refine wpAny_bind (D1.item i {s with heap:=h₁} _ _ l1 (D1.frame _ _ _ h1 (fr hs₁ D.z1)) fun x h₂ tk1 px h1₂ hs₂=>wpAny_pure ?_)
  have hs₂:Heap.SameBut i1 h₁ h₂:=hs₂
  have hTO₂:IsPair h₂ TO a b:=hs₂.extBut _ _ D.TOi1 (hs₁.extBut _ _ D.TOz hTO)
  refine wpAny_bind (wpAny_seqItems hTO₂ rfl ?_)
  refine wpAny_bind (wpAny_updateSeq_pair hTO₂ fun h₃ hTO₃ hs₃=>?_)
  have hs₃:Heap.SameBut TO h₂ h₃:=hs₃
  refine wpAny_bind (wpAny_letGo (wpAny_pure ?_))
  refine wpAny_bind (wpAny_bind (wpAny_onRaise ?_))
  show wpAny _ _ (Builtin.SmallTypes.nextOf (.ref i2) >>= _) _ _ _
  refine wpAny_bind (D2.done {s with heap:=h₃,toks:=tk1} _ _ (D2.frame _ _ _ (D2.frame _ _ _ (D2.frame _ _ _ h2 (fr hs₁ D.z2)) (fr hs₂ D.i1f2)) (fr hs₃ D.t2)) fun h₄ e hs₄ he=>?_)
  have hs₄:Heap.ExtBut i2 h₃ h₄:=hs₄
  obtain ⟨oe,hoe,hce⟩:=he
  have hz₄:dI h₄ z TI TO .ellipsis (.bool bb):=hs₄ _ _ D.i2z.symm (hs₃.extBut _ _ D.TOz.symm (hs₂.extBut _ _ D.i1z.symm hz₁))
  have hez:e≠z:=fun x=>by subst x;rw[hz₄] at hoe;cases hoe;simp at hce
  refine wpAny_setField_rec hz₄ (by simp) fun h₅ _ hs₅=>hE h₅ tk1 e (fun c o c1 c2 c3 c4 x=>hs₅.extBut _ _ c1 (hs₄ _ _ c4 (hs₃.extBut _ _ c2 (hs₂.extBut _ _ c3 (hs₁.extBut _ _ c1 x))))) ⟨oe,hs₅.extBut _ _ hez hoe,hce⟩
theorem lX{prog:Program}{w:World}{A:Around}{E:Value->Shared->Prop}{s:Shared}{z TI TO:Addr}{f0 f1:Value}{Q:Value->Shared->Prop}(hz:dI s.heap z TI TO f0 f1)(h:Q (.ref z) s):wpAny (model prog w) A (pyIter (.ref z)) Q E s:=by
 have hT:s.TypeIs (.ref z) "zip":=⟨_,hz,rfl⟩
 refine wpAny_pyIter_slot hT F.slot_zip_iter (wpAny_call_entry F.slot_zip_iter hT F.entry_zip_iter ?_ (F.args_zip_iter_1 _))
 show wpAny _ _ (ret (.ref z)) _ _ s
 exact wpAny_pure ⟨_,rfl,"zip",_,hT,F.slot_zip_next.lookup,h⟩
def ZN(h:Heap)(z TI TO:Addr):Prop:=∃ f0 bb,dI h z TI TO f0 (.bool bb)/\(f0=.none\/∃ T:Addr,f0=rawInt T)
theorem uY{z TI TO i1 i2:Addr}{f1 f2:List Addr}{n1 n2 i:Nat}{P1 P2:Nat->Value->Prop}{S1 S2:Nat->Heap->Prop}{a b:Value}{Q:Option Value->Shared->Prop}(D:Apart z TI TO i1 i2 f1 f2)
  (D1:Draws prog w A.in1 i1 f1 n1 P1 S1) (D2:Draws prog w A.in1 i2 f2 n2 P2 S2)
  (hz:ZN s.heap z TI TO) (hTI:IsPair s.heap TI (.ref i1) (.ref i2)) (hTO:IsPair s.heap TO a b) (h1:S1 i s.heap) (h2:S2 i s.heap) (l1:i < n1) (l2:i < n2)
  (hQ:∀ x y h' tk,P1 i x->P2 i y->ZN h' z TI TO->(∃ a b,IsPair h' TO a b)->S1 (i+1) h'->S2 (i+1) h'->IsPair h' s.heap.objs.size x y->h'.objs.size=s.heap.objs.size+1->
   (∀ c o,c≠z->c≠TO->c≠i1->c≠i2->s.heap.get? c=some o->h'.get? c=some o)->Q (some (.ref s.heap.objs.size)) {s with heap:=h',toks:=tk}) :
  wpAny (model prog w) A (pyNext (.ref z)) Q E s:=by
 obtain ⟨f0,bb,hz,hf⟩:=hz
 have hT:s.TypeIs (.ref z) "zip":=⟨_,hz,rfl⟩
 have free:(f0=.none\/∃ T:Addr,f0=rawInt T/\s.heap.get? T=none)->wpAny (model prog w) A (pyNext (.ref z)) Q E s:=fun hfr=>by
  unfold pyNext
  exact wpAny_bind (wpAny_attempt (wpAny_callSpecial?_slot (name:=Str.ofString "__next__") hT F.slot_zip_next
   (wpAny_call_entry F.slot_zip_next hT F.entry_zip_next
    (xJ D D1 D2 hz hfr hTI hTO h1 h2 l1 l2 fun x y h' tk p1 p2 a1 a2 a3 a4 a5 a6 a7=>wpAny_pure (hQ x y h' tk p1 p2 ⟨_,false,a1,.inr ⟨_,rfl⟩⟩ ⟨_,_,a2⟩ a3 a4 a5 a6 a7)) (F.args_zip_next_1 _))))
 rcases hf with rfl|⟨T,rfl⟩
 ·exact free (.inl rfl)
 ·cases hg:s.heap.get? T with
  | none=>exact free (.inr ⟨T,rfl,hg⟩)
  | some oT=>
   refine tF hz hg D D1 D2 hTI h1 h2 l1 l2 fun x y h' tk p1 p2 a1 a3 a4 a5 a6 a7=>?_
   exact hQ x y h' tk p1 p2 ⟨_,true,a1,.inr ⟨_,rfl⟩⟩ ⟨a,b,a7 _ _ D.TOz D.TOi1 D.TOi2 hTO⟩ a3 a4 a5 a6 fun c o c1 _ c3 c4 e=>a7 c o c1 c3 c4 e
theorem xK{z TI TO i1 i2:Addr}{f1 f2:List Addr}{n1 n2 i:Nat}{P1 P2:Nat->Value->Prop}{S1 S2:Nat->Heap->Prop}{a b:Value}{Q:Option Value->Shared->Prop}(D:Apart z TI TO i1 i2 f1 f2)
  (D1:Draws prog w A.in1 i1 f1 n1 P1 S1) (D2:Draws prog w A.in1 i2 f2 n2 P2 S2)
  (hz:ZN s.heap z TI TO) (hTI:IsPair s.heap TI (.ref i1) (.ref i2)) (hTO:IsPair s.heap TO a b) (h1:S1 i s.heap) (h2:S2 i s.heap) (hend:i=n1\/(i < n1/\i=n2))
  (hQ:∀ h' tk,(∀ c o,c≠z->c≠TO->c≠i1->c≠i2->s.heap.get? c=some o->h'.get? c=some o)->Q none {s with heap:=h',toks:=tk}):wpAny (model prog w) A (pyNext (.ref z)) Q E s:=by
 obtain ⟨f0,bb,hz,hf⟩:=hz
 have hT:s.TypeIs (.ref z) "zip":=⟨_,hz,rfl⟩
 have free:(f0=.none\/∃ T:Addr,f0=rawInt T/\s.heap.get? T=none)->wpAny (model prog w) A (pyNext (.ref z)) Q E s:=fun hfr=>by
  unfold pyNext
  refine wpAny_bind (wpAny_attempt (wpAny_callSpecial?_slot (name:=Str.ofString "__next__") hT F.slot_zip_next
   (wpAny_call_entry F.slot_zip_next hT F.entry_zip_next (zV D D1 D2 hz hfr hTI hTO h1 h2 hend fun h' tk e hk he=>?_) (F.args_zip_next_1 _))))
  obtain ⟨o,ho,hc⟩:=he
  refine wpAny_bind (wpAny_isInstance (T:="StopIteration") (b:=true) ⟨o,ho,hc⟩ isSubtype_stop ?_)
  exact wpAny_pure (hQ _ _ hk)
 rcases hf with rfl|⟨T,rfl⟩
 ·exact free (.inl rfl)
 ·cases hg:s.heap.get? T with
  | none=>exact free (.inr ⟨T,rfl,hg⟩)
  | some oT=>exact wT hz hg D D1 D2 hTI h1 h2 hend fun h' tk hk=>hQ h' tk fun c o c1 _ c3 c4 e=>hk c o c1 c3 c4 e
end
end Zp
namespace L2
open PySem PySem.Spec PyProof.Rows
theorem xL{P:Program}{w:World}{K:Frag}{nm:Str}{tpos:Pos}{C1 C2:Col}{z TI TO i1 i2:Addr}{t1 t2:Nat->Heap->Prop}(c1:ColOk P w K C1 i1 t1)(c2:ColOk P w K C2 i2 t2)(hd:[z,TI,TO,i1,i2].Nodup) :
  Turn P w K (.Name nm tpos) (Itz C1 C2) [z,TI,TO,i1,i2] z (fun i h=>Zp.ZN h z TI TO/\IsPair h TI (.ref i1) (.ref i2)/\(∃ a b,IsPair h TO a b)/\t1 i h/\t2 i h) where
 mem:=by simp
 obj:=fun i h zz0 c hc=>by
  obtain ⟨s1,s2,⟨a,b,s3⟩,s4,s5⟩:=zz0
  simp only[List.mem_cons,List.not_mem_nil,or_false] at hc
  rcases hc with rfl|rfl|rfl|rfl|rfl
  ·obtain ⟨_,_,s1,_⟩:=s1;exact ⟨_,s1,fun v z=>by have z':Data.fields _=Data.cell v:=z;cases z'⟩
  ·exact ⟨_,s2,fun v z=>by have z':Data.seq _ _=Data.cell v:=z;cases z'⟩
  ·exact ⟨_,s3,fun v z=>by have z':Data.seq _ _=Data.cell v:=z;cases z'⟩
  ·exact c1.obj i h s4
  ·exact c2.obj i h s5
 keep:=fun i h h' ⟨s1,s2,⟨a,b,s3⟩,s4,s5⟩ k=>⟨(by obtain ⟨a,b,s1,r⟩:=s1;exact ⟨a,b,k z (by simp) _ s1,r⟩),k TI (by simp) _ s2,⟨a,b,k TO (by simp) _ s3⟩,c1.keep i h h' s4 fun o e=>k i1 (by simp) o e,c2.keep i h h' s5 fun o e=>k i2 (by simp) o e⟩
 item:=by
  intro X hP hw hK hc i pins s σ H E I hf st hg
  obtain ⟨s1,s2,⟨a,b,s3⟩,s4,s5⟩:=st
  obtain ⟨xs,ys,q1,q2,l1,l2⟩:=hg
  simp only[List.nodup_cons,List.mem_cons,List.not_mem_nil,or_false,not_or,List.nodup_nil,and_true,not_false_eq_true] at hd
  obtain ⟨⟨d1,d2,d3,d4⟩,⟨d5,d6,d7⟩,⟨d8,d9⟩,d10⟩:=hd
  have hhd:X.A.in1.handled=none:=I.ok.hd hc
  obtain ⟨f1,P1,S1,D1,a1,a2,a3,a4⟩:=c1.draw X hP hw hK i pins s σ H xs X.A.in1 I (hf i1 (by simp)) s4 q1 hhd
  obtain ⟨f2,P2,S2,D2,b1,b2,b3,b4⟩:=c2.draw X hP hw hK i pins s σ H ys X.A.in1 I (hf i2 (by simp)) s5 q2 hhd
  have one1:=fun zs (h:C1 H zs)=>c1.one X hP hw hK pins s σ H zs xs I h q1
  have one2:=fun zs (h:C2 H zs)=>c2.one X hP hw hK pins s σ H zs ys I h q2
  subst hP hw hK
  have D:Zp.Apart z TI TO i1 i2 f1 f2:=⟨Ne.symm d1,Ne.symm d2,Ne.symm d3,Ne.symm d4,d5,d6,d7,d8,d9,d10,a4 z (hf z (by simp)) d3,b4 z (hf z (by simp)) d4,a4 TO (hf TO (by simp)) d8,b4 TO (hf TO (by simp)) d9,b4 i1 (hf i1 (by simp)) d10,a4 i2 (hf i2 (by simp)) (Ne.symm d10)⟩
  have hzl:z < s.heap.objs.size:=by obtain ⟨_,_,s1,_⟩:=s1;exact Heap.lt_size s1
  refine Zp.uY D D1 D2 s1 s2 s3 a1 b1 l1 l2 fun x y h2 tk px py g1 g2 g3 g4 g5 g6 kp=>?_
  obtain ⟨u,hu,ru⟩:=a3 i x px
  obtain ⟨v,hv,rv⟩:=b3 i y py
  refine ⟨_,rfl,wpAny_pure ?_⟩
  have hT2:h2.get? s.heap.objs.size=some {cls:=.type "tuple",data:=.seq #[x,y]}:=g5
  have fT:H s.heap.objs.size=none:=I.hok.fresh (Nat.le_refl _)
  have kp2:∀ c o,c∉[z,TI,TO,i1,i2]->s.heap.get? c=some o->h2.get? c=some o:=fun c o hc' q=>by
   simp only[List.mem_cons,List.not_mem_nil,or_false,not_or] at hc'
   exact kp c o hc'.1 hc'.2.2.1 hc'.2.2.2.1 hc'.2.2.2.2 q
  have nfp:∀ c uu,H c=some uu->c∉[z,TI,TO,i1,i2]:=fun c uu q z2=>by rw[(hf c z2).1] at q;cases q
  have hok2:HOk X.prog X.w H h2:=fun c uu q=>by
   refine (I.hok c uu q).stay (fun c' v' hc' q'=>kp2 c' v' ?_ q') (fun _ q=>q) (fun _ _ q=>q) fun _ _ q=>q
   rcases hc' with z2|z2
   ·rw[z2];exact nfp c uu q
   ·exact nfp c' _ z2
  have hokT:HOk X.prog X.w (upd H s.heap.objs.size (.tup [u,v])) h2:=HOk.track hok2 fT ⟨by show 2<=sizeLine;decide,[x,y],.cons ru (.cons rv .nil),⟨_,hT2,rfl,_,rfl⟩⟩
  have ltT:∀ c uu,H c=some uu->c≠s.heap.objs.size:=fun c uu q=>bK q fT
  have I2:Inv X pins σ (upd H s.heap.objs.size (.tup [u,v])) {s with heap:=h2,gens:=s.gens,drawn:=s.drawn,toks:=tk}:=by
   refine I.step (ch:=[z,TI,TO,i1,i2]) (fun c hc'=>?_) (fun c o _ _ hc' q _=>kp2 c o hc' q) (fun c o _ _ hc' q _=>⟨o.slots,kp2 c o hc' q⟩)
    (fun c o _ q n=>by rw[aK (Nat.ne_of_lt (Heap.lt_size q))];exact n) (fun c o hc' q=>⟨o,kp2 c o hc' q⟩) (fun c ys q=>by rw[aK (ltT c _ q)];exact q) (fun c o uu q=>by rw[aK (ltT c _ q)];exact q)
    (fun c ps q=>by rw[aK (ltT c _ q)];exact q) (fun m hm=>?_) hokT I.bare
   ·obtain ⟨e0,e1,e2,e3,e4,e5⟩:=hf c hc'
    exact ⟨e3,e1,e4,e5⟩
   ·obtain ⟨o,es',ep,ho,r⟩:=hm
    exact ⟨o,es',ep,kp2 _ o (fun z2=>(hf _ z2).2.1 rfl) ho,r⟩
  refine ⟨.ref s.heap.objs.size,_,I2,rfl,⟨_,u,v,fT,rfl,rfl,fun zs hzs=>by rw[one1 zs hzs];exact hu,fun zs hzs=>by rw[one2 zs hzs];exact hv⟩,⟨g1,kp TI _ (Ne.symm d1) d5 d6 d7 s2,g2,a2 _ _ g3,b2 _ _ g4⟩,fun c hc'=>?_⟩
  rw[aK]
  ·exact (hf c hc').1
  ·intro z2
   have hlt:c < s.heap.objs.size:=by
    simp only[List.mem_cons,List.not_mem_nil,or_false] at hc'
    rcases hc' with rfl|rfl|rfl|rfl|rfl
    · exact hzl
    · exact Heap.lt_size s2
    · exact Heap.lt_size s3
    · obtain ⟨o, e, _⟩ := c1.obj _ _ s4; exact Heap.lt_size e
    · obtain ⟨o, e, _⟩ := c2.obj _ _ s5; exact Heap.lt_size e
   rw[z2] at hlt
   exact absurd hlt (Nat.lt_irrefl _)
 done:=by
  intro X hP hw hK hc i pins s σ H E I hf st hg
  obtain ⟨s1,s2,⟨a,b,s3⟩,s4,s5⟩:=st
  obtain ⟨xs,ys,q1,q2,hend⟩:=hg
  simp only[List.nodup_cons,List.mem_cons,List.not_mem_nil,or_false,not_or,List.nodup_nil,and_true,not_false_eq_true] at hd
  obtain ⟨⟨d1,d2,d3,d4⟩,⟨d5,d6,d7⟩,⟨d8,d9⟩,d10⟩:=hd
  have hhd:X.A.in1.handled=none:=I.ok.hd hc
  obtain ⟨f1,P1,S1,D1,a1,a2,a3,a4⟩:=c1.draw X hP hw hK i pins s σ H xs X.A.in1 I (hf i1 (by simp)) s4 q1 hhd
  obtain ⟨f2,P2,S2,D2,b1,b2,b3,b4⟩:=c2.draw X hP hw hK i pins s σ H ys X.A.in1 I (hf i2 (by simp)) s5 q2 hhd
  subst hP hw hK
  have D:Zp.Apart z TI TO i1 i2 f1 f2:=⟨Ne.symm d1,Ne.symm d2,Ne.symm d3,Ne.symm d4,d5,d6,d7,d8,d9,d10,a4 z (hf z (by simp)) d3,b4 z (hf z (by simp)) d4,a4 TO (hf TO (by simp)) d8,b4 TO (hf TO (by simp)) d9,b4 i1 (hf i1 (by simp)) d10,a4 i2 (hf i2 (by simp)) (Ne.symm d10)⟩
  refine Zp.xK D D1 D2 s1 s2 s3 a1 b1 hend fun h' tk kp=>⟨rfl,?_⟩
  have kp2:∀ c o,c∉[z,TI,TO,i1,i2]->s.heap.get? c=some o->h'.get? c=some o:=fun c o hc' q=>by
   simp only[List.mem_cons,List.not_mem_nil,or_false,not_or] at hc'
   exact kp c o hc'.1 hc'.2.2.1 hc'.2.2.2.1 hc'.2.2.2.2 q
  have nfp:∀ c uu,H c=some uu->c∉[z,TI,TO,i1,i2]:=fun c uu q z2=>by rw[(hf c z2).1] at q;cases q
  have hthere:∀ c o,s.heap.get? c=some o->c∈[TI]->h'.get? c=some o:=fun c o e hm=>by
   have:c=TI:=by simpa using hm
   subst this
   exact kp c o (Ne.symm d1) d5 d6 d7 e
  refine I.step (g':=s.gens) (d':=s.drawn) (ch:=[z,TI,TO,i1,i2]) (fun c hc'=>?_) (fun c o _ _ hc' q _=>kp2 c o hc' q) (fun c o _ _ hc' q _=>⟨o.slots,kp2 c o hc' q⟩) (fun _ _ _ _ n=>n) (fun c o hc' q=>⟨o,kp2 c o hc' q⟩) (fun _ _ q=>q) (fun _ _ _ q=>q) (fun _ _ q=>q) (fun m hm=>?_) (fun c uu q=>?_) I.bare
  ·obtain ⟨e0,e1,e2,e3,e4,e5⟩:=hf c hc'
   exact ⟨e3,e1,e4,e5⟩
  ·obtain ⟨o,es',ep,ho,r⟩:=hm
   exact ⟨o,es',ep,kp2 _ o (fun z2=>(hf _ z2).2.1 rfl) ho,r⟩
  ·refine (I.hok c uu q).stay (fun c' v' hc' q'=>kp2 c' v' ?_ q') (fun _ q=>q) (fun _ _ q=>q) fun _ _ q=>q
   rcases hc' with z2|z2
   ·rw[z2];exact nfp c uu q
   ·exact nfp c' _ z2
 self:=fun _ _ _ _ _ st h=>(by obtain ⟨⟨_,_,s1,_⟩,_⟩:=st;exact Zp.lX s1 h)
theorem aCQ{X:Cx}{nm:String}{tpos:Pos}{a b:Expr}{ta:TA}{p pos:Pos}(hg:Gl X "zip")(hm:X.mg "zip"=none)(ha:PA X [a,b] ta)(hs:starEach [a,b] X.env=[(false,eval a X.env),(false,eval b X.env)]:=by rfl)(hs2:starEach [b] X.env=[(false,eval b X.env)]:=by rfl) :
  PI X (.Name nm tpos) (.Call (.Name "zip" p) [a,b] [] pos) (aEE X.K ta):=by
 intro pins s σ H R I h
 refine Call_ (gL I hg hm PyProof.Rows.boot_zip (PyProof.Rows.callWith_type1 (thn (ha pos pins s σ H _ I h) fun us s1 ⟨vs,H1,I1,r1,q1⟩=>?_) (by rw[hs,hs2]) (by rw[hs2];rfl)))
 obtain ⟨x,y,C1,C2,rfl,c1,c2,q⟩:=q1
 cases r1 with
 | cons ru rr=>
  cases rr with
  | cons rv rr=>
   cases rr
   rename_i u1 _ u2
   obtain ⟨o1,t1,a1,a2,a3,a4⟩:=iQ I1 ru c1
   obtain ⟨o2,t2,b1,b2,b3,b4⟩:=iQ I1 rv c2
   refine Zp.q9 (a1 _ fun _ _ e=>e) (b1 _ fun _ _ e=>Heap.get?_push_of_some _ e) a2 b2 fun h' z1 z2 z3 z4 z5 z6 kp=>?_
   have I2:Inv X pins σ H1 {s1 with heap:=h'}:=I1.kept (t':=s1.toks) kp
   refine wpAny_pyIter_zip z1 ?_
   refine ⟨s1.heap.objs.size+4,[s1.heap.objs.size+4,s1.heap.objs.size+2,s1.heap.objs.size+3,s1.heap.objs.size,s1.heap.objs.size+1],_,_,H1,rfl,I2,xL (a3 _) (b3 _) ?_,⟨⟨_,_,z1,.inl rfl⟩,z2,⟨_,_,z3⟩,a4 _ _ z4,b4 _ _ z5⟩,fun c hc=>?_,q⟩
   ·simp only[List.nodup_cons,List.mem_cons,List.not_mem_nil,or_false,not_or,List.nodup_nil,and_true,not_false_eq_true]
    refine ⟨⟨?_,?_,?_,?_⟩,⟨?_,?_,?_⟩,⟨?_,?_⟩,?_⟩<;>(intro z;have z':=congrArg (fun x:Nat=>x - s1.heap.objs.size) z;simp at z')
   ·have hle:s1.heap.objs.size<=c:=by
     simp only[List.mem_cons,List.not_mem_nil,or_false] at hc
     rcases hc with rfl|rfl|rfl|rfl|rfl
     · exact Nat.le_add_right _ _
     · exact Nat.le_add_right _ _
     · exact Nat.le_add_right _ _
     · exact Nat.le_refl _
     · exact Nat.le_add_right _ _
    exact I1.fpOk hle (I1.hok.fresh hle)
end L2
namespace L2
open PySem PySem.Spec PyProof.Rows
section
variable{X:Cx}
def tQ:V->List V->Hp->VK->Prop:=fun x vs H Q=>∃ l xs i y,x=.ref l/\vs=[.int i,y]/\H l=some (.lst xs)/\0<=i/\i < 2 ^ 63/\xs.length < sizeLine/\Q .non (upd H l (.lst (xs.take (min i.toNat xs.length)++y::xs.drop (min i.toNat xs.length))))
theorem xM:MtM X "list.insert" tQ:=by
 intro pins s σ H x vs v us Q I rx rv h
 obtain ⟨l,xs,i,y,rfl,rfl,hH,h1,h2,hz,q⟩:=h
 cases rx
 cases rv with
 | cons ri rr=>
  obtain ⟨t,rfl⟩:=ri
  obtain ⟨u,rfl,ru⟩:=aV.one rr
  obtain ⟨z,its,n,r,hl,e⟩:=I.lstM hH
  refine call_meets F.slot_list_insert ⟨_,e,rfl⟩ F.entry_list_insert (F.args_list_insert_3 _ _ _)
   (AutoSeq1.list_insert_list_int_val_1 l its.toArray n i t u (by rw[fitsIndex_both (by omega) h2];exact Bool.false_ne_true) (by rw[List.size_toArray];omega)) ⟨e,?_⟩
  refine ⟨.non,_,I.lset (its':=its.take (min i.toNat its.length)++u::its.drop (min i.toNat its.length)) hH e ?_ ?_ ?_,rfl,q⟩
  ·show (its.toArray.extract 0 (if i < 0 then (i+(its.toArray.size:Int)).toNat else min i.toNat its.toArray.size)).push u++its.toArray.extract (if i < 0 then (i+(its.toArray.size:Int)).toNat else min i.toNat its.toArray.size)=_
   rw[if_neg (by omega),List.size_toArray]
   apply Array.toList_inj.mp
   simp
   exact List.take_of_length_le (by simp)
  ·rw[hl]
   exact (r.take _).append (.cons ru (r.drop _))
  ·rw[List.length_append,List.length_cons,List.length_take,List.length_drop]
   omega
end
end L2
namespace Fl
open PySem L2 PyProof.Rows
theorem DatVs.takeN{K:Frag}{F:Hp}:∀ {vs:List V} {xs:List PyData} (j:Nat),DatVs K F vs xs->DatVs K F (vs.take j) (xs.take j)
 | _,_,0,_=>by rw[List.take_zero,List.take_zero];exact .nil
 | _,_,j+1,.nil=>by rw[List.take_nil,List.take_nil];exact .nil
 | _,_,j+1,.cons h t=>.cons h (DatVs.takeN j t)
theorem DatVs.dropN{K:Frag}{F:Hp}:∀ {vs:List V} {xs:List PyData} (j:Nat),DatVs K F vs xs->DatVs K F (vs.drop j) (xs.drop j)
 | _,_,0,h=>h
 | _,_,j+1,.nil=>by rw[List.drop_nil,List.drop_nil];exact .nil
 | _,_,j+1,.cons _ t=>DatVs.dropN j t
theorem DatVs.eraseN{K:Frag}{F:Hp}:∀ {vs:List V} {xs:List PyData} (j:Nat),DatVs K F vs xs->DatVs K F (vs.eraseIdx j) (xs.eraseIdx j)
 | _,_,_,.nil=>.nil
 | _,_,0,.cons _ t=>t
 | _,_,j+1,.cons h t=>.cons h (DatVs.eraseN j t)
def dPow:PyData->PyData->R PyData
 | .int i,.int j=>if 0<=j/\j<=1000000/\i.natAbs < 2 ^ 64 then .ok (.int (i ^ j.toNat)) else .bad
 | _,_=>.bad
section
variable{X:Cx}{c:Ct}{E:XK}{st:Stmt}
theorem aCR:OpR X (binaryOp .Pow) (r2D (aQ c) (aQ c) (bO c) dPow):=gR aDD (fun _ _ _=>.int _) fun a b d h=>by
 unfold dPow at h;split at h
 ·split at h
  · rename_i hc; cases h; exact ⟨_, _, rfl, rfl, hc, rfl⟩
  · cases h
 ·cases h
theorem xN:b9 dPow:=by intro a b e h;unfold dPow at h;split at h<;>(try split at h)<;>cases h
def nU(i:Nat)(f:Sg->R PyData):Sg->R Fw:=fun ρ=>match ρ[i]? with
 | some (some (.l xs))=>(f ρ).bind fun x=>match x with
  | .int k=>if 0<=k/\k < xs.length/\k < 2 ^ 63 then .ok (.nx (ρ.set i (some (.l (xs.eraseIdx k.toNat))))) else .bad
  | _=>.bad
 | _=>.bad
theorem zW{i:Nat}{f:Sg->R PyData}(h:PS X st (mP (tBM X.K "list" vK (fG i) (cS (tV (bO c) c E f) eJ)))):PSf X c E st (nU i f):=PS.imp h fun D σ H ⟨ρ,F,ab,k⟩=>by
 unfold nU at k
 split at k
 ·rename_i xs hi
  obtain ⟨v,hp,p,vs,rfl,h2,h3,h4,h5⟩:=ab.slot i _ hi
  refine ⟨_,hp,.inl ⟨rfl,vs,SqL.of h2⟩,ρ,F,ab,(Rk.bind k).imp fun x _ q u F1 H1 s1 r1=>?_⟩
  split at q
  ·rename_i kk _
   split at q
   ·rename_i hk
    cases r1
    have hl:vs.length=xs.length:=h5.length
    have hlt:kk.toNat < vs.length:=by omega
    refine ⟨p,vs,kk,kk.toNat,vs[kk.toNat],rfl,rfl,s1.hh _ _ h2,by omega,hk.2.2,?_,List.getElem?_eq_getElem hlt,?_⟩
    ·simp only[seqIndex?]
     rw[if_neg (show ¬ kk < 0 by omega),if_pos (by simp;omega)]
    ·exact Rk.ok q σ F1 _ s1.ff ((ab.ext s1).putL hi hp (DatVs.eraseN _ (h5.same s1.ff)))
   ·exact q.elim
  ·exact q.elim
 ·exact k.elim
def uZ(i:Nat)(f g:Sg->R PyData):Sg->R Fw:=fun ρ=>match ρ[i]? with
 | some (some (.l xs))=>(f ρ).bind fun x=>(g ρ).bind fun y=>match x with
  | .int k=>if 0<=k/\k < 2 ^ 63/\xs.length < 16777216 then .ok (.nx (ρ.set i (some (.l (xs.take (min k.toNat xs.length)++y::xs.drop (min k.toNat xs.length)))))) else .bad
  | _=>.bad
 | _=>.bad
theorem aEX{i:Nat}{f g:Sg->R PyData}(h:PS X st (mP (tBM X.K "list" tQ (fG i) (cS (tV (bO c) c E f) (cS (tV (bO c) c E g) eJ))))):PSf X c E st (uZ i f g):=PS.imp h fun D σ H ⟨ρ,F,ab,k⟩=>by
 unfold uZ at k
 split at k
 ·rename_i xs hi
  obtain ⟨v,hp,p,vs,rfl,h2,h3,h4,h5⟩:=ab.slot i _ hi
  refine ⟨_,hp,.inl ⟨rfl,vs,SqL.of h2⟩,ρ,F,ab,(Rk.bind k).imp fun x _ q u F1 H1 s1 r1=>?_⟩
  have ab1:=ab.ext s1
  refine ⟨ρ,F1,ab1,((Rk.bind q).ext s1).imp fun y _ q w F2 H2 s2 r2=>?_⟩
  clear k
  split at q
  ·rename_i kk _ _
   split at q
   ·rename_i hk
    cases r1
    have hl:vs.length=xs.length:=h5.length
    have hz:xs.length < 16777216:=hk.2.2
    refine ⟨p,vs,kk,w,rfl,rfl,s2.hh _ _ (s1.hh _ _ h2),hk.1,hk.2.1,by rw[hl,cD];exact hz,?_⟩
    rw[hl]
    have d5:=(h5.same s1.ff).same s2.ff
    exact Rk.ok q σ F2 _ (s1.trans s2).ff ((ab1.ext s2).putL hi hp ((DatVs.takeN _ d5).append (.cons r2 (DatVs.dropN _ d5))))
   ·exact q.elim
  ·exact q.elim
 ·exact k.elim
end
end Fl
namespace Mc
open PySem L2 PyProof.Rows Fl
noncomputable def g9:Sg->R Fw:=(aE (sIf (e1 asB (e2 dNe (eA (bD 1 cO (aB (vV 0) aL))) (eA (bD 1 cO (aB (vV 1) aL))))) (bN (vD (eC (.bool false)))) sNx)
 (aE (nS 3 (dL [none] (e1 aY (rV 2)) (stN 0) eM (cZ (aB (eV 0) (aB (eC (.bool true)) aL)))))
 (aE (sIf (e1 asB (gB true 3 (cZ (aB (eC (.int 0)) (aB (eC (.int 0)) aL))))) (bN (vD (eC (.bool false)))) sNx)
 (aE (i5 3 (eU (nP 3) (stN 4) (aE (sIf (bOr (d0 (e1 asB (eA (bD 3 eH (aB (vV 0) (aB (vV 1) (aB (vV 4) aL))))))) (d0 (e1 asB (eA (bD 3 eG (aB (vV 0) (aB (vV 1) (aB (vV 4) aL)))))))) (bN (vD (eC (.bool false)))) sNx)
 (sIf (d0 (e1 asB (e1 dAll (eL (dL [none,some 3] (e1 aY (eA (bD 3 dX (aB (vV 0) (aB (vV 1) (aB (vV 4) aL)))))) (stN 0) eM (gB false 1 (eV 0))))))) (bN (vD (eC (.bool false)))) sNx))))
 (bN (vD (eC (.bool true))))))))
noncomputable def c9:List A->R A:=fnF 5 g9
noncomputable def hZ:Sg->R Fw:=(aE (cB 5 (dM aL))
 (aE (cB 6 (dM aL))
 (aE (eU (dN (rV 2)) (stN 7) (aE (bI 8 (vD (kT (e2 dLt (e2 bP (rV 1) (rV 7)) (e1 dLen (rV 0))) (e2 dEq (e2 dMod (e2 dIx (rV 0) (eC (.int 0))) (eC (.int 2))) (eC (.int 1))))))
 (aE (bI 9 (vD (e2 dMod (eA (bD 2 bG (aB (vV 0) (aB (vD (e2 bP (rV 1) (rV 7))) aL)))) (eC (.int 2147483647)))))
 (aE (sIf (e1 asB (eV 8)) (bI 9 (vD (e2 dIx (rV 0) (e2 bP (rV 1) (rV 7))))) sNx)
 (aE (cB 10 (dM aL))
 (aE (eU (dN (rV 3)) (stN 11) (aE (sIf (d0 (e1 asB (eV 8))) (bI 9 (vD (e2 dDiv (e2 dMod (e2 bP (e2 dMul (rV 9) (eC (.int 48271))) (eC (.int 7919))) (eC (.int 2147483647))) (eC (.int 64))))) sNx)
 (aE (e8 10 (e2 dMod (rV 9) (rV 2)))
 (bI 9 (vD (e2 dDiv (rV 9) (rV 2)))))))
 (aE (e8 6 (e2 dIx (eL (dM (aB (eC (.str "by")) (aB (eC (.str "out")) (aB (eC (.str "ever")) aL))))) (e2 dMod (rV 9) (rV 4))))
 (e8 5 (e1 dTup (rV 10))))))))))
 (bN (vD (cZ (aB (e1 dTup (rV 5)) (aB (e1 dTup (rV 6)) aL))))))))
noncomputable def bQ:List A->R A:=fnF 12 hZ
noncomputable def gD:Sg->R Fw:=(aE (sIf (bOr (e1 asB (e2 dNe (e1 dLen (e2 dIx (e2 dIx (rV 0) (eC (.int 0))) (eC (.int 0)))) (e1 dLen (e2 dIx (e2 dIx (rV 1) (eC (.int 0))) (eC (.int 0)))))) (e1 asB (e2 dNin (cZ (aB (eC (.int 0)) (aB (eC (.int 0)) aL))) (rV 2)))) (bN (vD (eC (.bool false)))) sNx)
 (aE (eU (e1 aY (eV 2)) (stT [(stN 3),(stN 4)]) (aE (sIf (bOr (d0 (e1 asB (eCh dLe dLt (eC (.int 0)) (rV 3) (e1 dLen (e2 dIx (rV 0) (eC (.int 0))))))) (bOr (d0 (e1 asB (eCh dLe dLt (eC (.int 0)) (rV 4) (e1 dLen (e2 dIx (rV 1) (eC (.int 0))))))) (e1 asB (e2 dNe (e2 dIx (e2 dIx (rV 0) (eC (.int 1))) (rV 3)) (e2 dIx (e2 dIx (rV 1) (eC (.int 1))) (rV 4)))))) (bN (vD (eC (.bool false)))) sNx)
 (sIf (e1 asB (e2 dIn (eC (.bool false)) (eL (dL [none,some 2] (e2 iR (e2 dIx (e2 dIx (rV 0) (eC (.int 0))) (rV 3)) (e2 dIx (e2 dIx (rV 1) (eC (.int 0))) (rV 4))) (stN 0) eM (e2 dIn (rV 0) (rV 1)))))) (bN (vD (eC (.bool false)))) sNx)))
 (bN (vD (eC (.bool true))))))
noncomputable def cR:List A->R A:=fnF 5 gD
noncomputable def fC:Sg->R Fw:=(aE (mI (stT [(stN 2),(stN 3)]) (eV 0))
 (aE (cB 4 (e2 rF (eC (.int 1)) (e1 dLen (rV 2))))
 (aE (bI 1 (vD (e2 dMod (rV 1) (e2 (d2 gZ) (eC (.int 1)) (e1 dLen (rV 4))))))
 (aE (cB 4 (e2 eN (eL (e2 eN (eL (dM (aB (eC (.int 0)) aL))) (eSl dSl (rV 4) (oSo (rV 1)) oNo))) (eSl dSl (rV 4) oNo (oSo (rV 1)))))
 (aE (nL 5)
 (aE (sFz 4 (eU (e1 j5 (eV 4)) (stT [(stN 6),(stN 7)]) (iB 5 (eV 7) (eV 6))))
 (aE (cB 8 (dL [none,some 2,some 5] (e1 aY (rV 4)) (stN 0) eM (e1 dTup (eL (dL [none,some 2] (e1 aY (e2 dIx (rV 1) (rV 0))) (stN 0) eM (gJ 1 (eV 0)))))))
 (bN (vD (cZ (aB (e1 dTup (rV 8)) (aB (e1 dTup (eL (dL [none,some 3] (e1 aY (rV 4)) (stN 0) eM (e2 dIx (rV 1) (rV 0))))) aL))))))))))))
noncomputable def c8:List A->R A:=fnF 9 fC
noncomputable def bJ:Sg->R Fw:=(aE (bI 3 (vD (e2 dMod (rV 2) (e1 dLen (rV 0)))))
 (aE (cB 4 (e1 dLst (rV 0)))
 (aE (sIf (e1 asB (e2 dEq (rV 1) (eC (.int 0)))) (nU 4 (eV 3)) sNx)
 (aE (sIf (e1 asB (e2 dEq (rV 1) (eC (.int 1)))) (e8 4 (cZ (aB (e2 dMod (e2 dDiv (rV 2) (eC (.int 8))) (eC (.int 6))) (aB (e2 dMod (e2 dDiv (rV 2) (eC (.int 64))) (eC (.int 6))) aL)))) sNx)
 (aE (sIf (e1 asB (e2 dEq (rV 1) (eC (.int 2)))) (oC 4 (rV 3) (cZ (aB (e2 dIx (e2 dIx (rV 4) (rV 3)) (eC (.int 0))) (aB (e2 bP (eC (.int 6)) (e2 dMod (e2 dDiv (rV 2) (eC (.int 8))) (e2 dPow (eC (.int 10)) (eC (.int 9))))) aL)))) sNx)
 (aE (sIf (e1 asB (e2 dEq (rV 1) (eC (.int 3)))) (oC 4 (rV 3) (cZ (aB (e2 dSub (e1 dNeg (eC (.int 1))) (e2 dMod (e2 dDiv (rV 2) (eC (.int 8))) (eC (.int 6)))) (aB (e2 dIx (e2 dIx (rV 4) (rV 3)) (eC (.int 1))) aL)))) sNx)
 (aE (sIf (e1 asB (e2 dEq (rV 1) (eC (.int 4)))) (uZ 4 (eV 3) (cZ (aB (e2 dIx (e2 dIx (rV 4) (rV 3)) (eC (.int 0))) (aB (e2 dSub (e1 dNeg (eC (.int 1))) (e2 dMod (e2 dDiv (rV 2) (eC (.int 8))) (eC (.int 6)))) aL)))) sNx)
 (aE (sIf (uM (e1 asB (e2 dEq (rV 1) (eC (.int 5)))) (e1 asB (e2 dEq (e2 dMod (e2 dDiv (rV 2) (eC (.int 8))) (eC (.int 4))) (eC (.int 1))))) (cB 4 (dM aL)) sNx)
 (sFz 4 (bN (vV 4)))))))))))
noncomputable def bF:List A->R A:=fnF 5 bJ
noncomputable def fZ:Sg->R Fw:=(aE (cB 3 (e1 dLst (rV 2)))
 (aE (sFz 3 (bI 4 (bD 3 c9 (aB (vV 0) (aB (vV 1) (aB (vV 3) aL))))))
 (bN (vD (kT (e1 (i4 "bool") (rV 4)) (kT (e2 dEq (rV 4) (eA (bD 3 cR (aB (vV 0) (aB (vV 1) (aB (vV 2) aL)))))) (e2 dEq (rV 3) (rV 2))))))))
noncomputable def b8:List A->R A:=fnF 5 fZ
noncomputable def u0:Sg->R Fw:=(aE (bI 1 (bD 2 bG (aB (vV 0) (aB (vD (eC (.int 0))) aL))))
 (aE (bI 2 (vD (e2 bP (eC (.int 1)) (e2 dMod (rV 1) (eC (.int 3))))))
 (aE (bI 3 (vD (e2 bP (eC (.int 1)) (e2 dMod (e2 dDiv (rV 1) (eC (.int 3))) (eC (.int 6))))))
 (aE (bI 4 (bD 5 bQ (aB (vV 0) (aB (vD (eC (.int 4))) (aB (vV 3) (aB (vV 2) (aB (vD (e2 bP (eC (.int 1)) (e2 dMod (e2 dDiv (rV 1) (eC (.int 18))) (eC (.int 3))))) aL)))))))
 (aE (bI 5 (bD 2 c8 (aB (vV 4) (aB (bD 2 bG (aB (vV 0) (aB (vD (eC (.int 1))) aL))) aL))))
 (aE (sIf (e1 asB (e2 dEq (e2 dMod (e2 dDiv (rV 1) (eC (.int 54))) (eC (.int 4))) (eC (.int 1)))) (bI 5 (bD 5 bQ (aB (vV 0) (aB (vD (e2 bP (eC (.int 4)) (rV 3))) (aB (vD (e2 bP (eC (.int 1)) (e2 dMod (eA (bD 2 bG (aB (vV 0) (aB (vD (eC (.int 1))) aL)))) (eC (.int 6))))) (aB (vV 2) (aB (vD (e2 bP (eC (.int 1)) (e2 dMod (e2 dDiv (rV 1) (eC (.int 18))) (eC (.int 2))))) aL))))))) sNx)
 (aE (cB 6 (pS (bD 3 eE (aB (vV 4) (aB (vV 5) (aB (vD (cZ (aB (eC (.int 0)) (aB (eC (.int 0)) aL)))) aL))))))
 (aE (bI 7 (vD (e2 dMod (eA (bD 2 bG (aB (vV 0) (aB (vD (eC (.int 2))) aL)))) (e1 dLen (rV 6)))))
 (aE (cB 6 (e2 eN (eL (e2 eN (eSl dSl (rV 6) (oSo (rV 7)) oNo) (eSl dSl (rV 6) oNo (oSo (rV 7))))) (eSl dSl (rV 6) oNo (oSo (e2 dMod (e2 dDiv (eA (bD 2 bG (aB (vV 0) (aB (vD (eC (.int 2))) aL)))) (eC (.int 64))) (e2 bP (e1 dLen (rV 6)) (eC (.int 1))))))))
 (aE (sFz 6 (sIf (d0 (e1 asB (eA (bD 3 b8 (aB (vV 4) (aB (vV 5) (aB (vV 6) aL))))))) (bN (vD (eC (.bool false)))) sNx))
 (aE (bI 8 (vD (e2 dMod (eA (bD 2 bG (aB (vV 0) (aB (vD (eC (.int 3))) aL)))) (eC (.int 2147483647)))))
 (aE (sIf (e1 asB (e2 dEq (e2 dMod (e2 dDiv (rV 1) (eC (.int 54))) (eC (.int 8))) (eC (.int 2)))) (sFz 6 (bN (bD 3 b8 (aB (vV 4) (aB (bD 5 bQ (aB (vV 0) (aB (vD (eC (.int 10))) (aB (vV 3) (aB (vD (e2 bP (eC (.int 1)) (e2 dMod (rV 2) (eC (.int 3))))) (aB (vD (eC (.int 1))) aL)))))) (aB (vV 6) aL)))))) sNx)
 (aE (sIf (e1 asB (e2 dEq (e2 dMod (rV 8) (eC (.int 8))) (eC (.int 6)))) (aE (cB 9 (e1 dLst (e2 dIx (rV 5) (eC (.int 1)))))
 (aE (oC 9 (e2 dMod (e2 dDiv (rV 8) (eC (.int 8))) (e1 dLen (rV 9))) (e2 dIx (eL (dM (aB (eC (.str "by")) (aB (eC (.str "out")) (aB (eC (.str "ever")) aL))))) (e2 dMod (e2 dDiv (rV 8) (eC (.int 64))) (eC (.int 3)))))
 (bI 5 (vD (cZ (aB (e2 dIx (rV 5) (eC (.int 0))) (aB (e1 dTup (rV 9)) aL))))))) sNx)
 (sFz 6 (bN (bD 3 b8 (aB (vV 4) (aB (vV 5) (aB (bD 3 bF (aB (vV 6) (aB (vD (e2 dMod (rV 8) (eC (.int 8)))) (aB (vD (e2 dDiv (rV 8) (eC (.int 8)))) aL)))) aL)))))))))))))))))))
noncomputable def pT:List A->R A:=fnF 10 u0
end Mc
namespace Mc
open PySem L2 PyProof.Rows Fl
def top(i:Nat):Stmt:=PySem.Challenge.pw_striproam_k29_looker_of_pairs.main.body.getD i (.Pass ⟨0,0,0,0⟩)
structure Txt(w:World)(K:Frag)(mg:Str->Option Value):Prop where
 b_all:mg "all"=none
 b_bool:mg "bool"=none
 b_dict:mg "dict"=none
 b_enumerate:mg "enumerate"=none
 b_isinstance:mg "isinstance"=none
 b_len:mg "len"=none
 b_list:mg "list"=none
 b_max:mg "max"=none
 b_range:mg "range"=none
 b_tuple:mg "tuple"=none
 b_zip:mg "zip"=none
section
variable{P:Program}{w:World}{K:Frag}{mg:Str->Option Value}{base:Heap}{TH:Hp}
theorem l6:FnScope ["reader"] ["reader"] (aP (top 1)):=by constructor<;>first|rfl|decide +kernel
theorem sC(T:Txt w K mg)(D:DefAt K mg "signs_by" (top 1) ["reader"]):bT P w K mg base TH 1 "signs_by" ["reader"] cO:=
 @eB P w K mg base TH "signs_by" (top 1) ["reader"] ["reader"] 0 j7 D l6 (fun f cdv A outer s H F E hr=>by
  have nd:=l6.nd
  exact (Fl.aT (Fl.cG (bB (dB rfl (bU cE rfl T.b_len PySem.boot_len (aM (aA (aZ (a9 rfl) aJ (aA (aZ (a9 rfl) aJ (aC (pv 0)) (aA aD))) (aA aD))) aU)))))))
theorem kG:FnScope ["one","other","pair"] ["one","other","pair"] (aP (top 3)):=by constructor<;>first|rfl|decide +kernel
theorem pN(T:Txt w K mg)(D:DefAt K mg "after_pair" (top 3) ["one","other","pair"]):bT P w K mg base TH 1 "after_pair" ["one","other","pair"] dX:=
 @eB P w K mg base TH "after_pair" (top 3) ["one","other","pair"] ["one","other","pair"] 0 iS D kG (fun f cdv A outer s H F E hr=>by
  have nd:=kG.nd
  exact (Fl.aT (Fl.cG (bB (fD (zB rfl (L2.zA rfl rfl T.b_list rfl T.b_zip (aM (aA (aZ (a9 rfl) aJ (aA (aZ (a9 rfl) aJ (aC (pv 0)) (aA aD))) (aA (aZ (a9 rfl) aJ (aC (pv 2)) (aA aD))))) (aM (aA (aZ (a9 rfl) aJ (aA (aZ (a9 rfl) aJ (aC (pv 1)) (aA aD))) (aA (aZ (a9 rfl) aJ (aC (pv 2)) (aA aD))))) aU)))))))))
theorem lC:FnScope ["one","other","pair"] ["one","other","pair"] (aP (top 4)):=by constructor<;>first|rfl|decide +kernel
theorem rT(T:Txt w K mg)(D:DefAt K mg "same_word" (top 4) ["one","other","pair"]):bT P w K mg base TH 1 "same_word" ["one","other","pair"] eG:=
 @eB P w K mg base TH "same_word" (top 4) ["one","other","pair"] ["one","other","pair"] 0 i6 D lC (fun f cdv A outer s H F E hr=>by
  have nd:=lC.nd
  exact (Fl.aT (Fl.cG (bB (jA (dO rfl hr.units) cY (aA (aZ (a9 rfl) aJ (aA (aZ (a9 rfl) aJ (aC (pv 0)) (aA aD))) (aA (aZ (a9 rfl) aJ (aC (pv 2)) (aA aD))))) (aA (aZ (a9 rfl) aJ (aA (aZ (a9 rfl) aJ (aC (pv 1)) (aA aD))) (aA (aZ (a9 rfl) aJ (aC (pv 2)) (aA aD))))) (cQ _))))))
theorem lD:FnScope ["one","other","pair"] ["one","other","pair"] (aP (top 6)):=by constructor<;>first|rfl|decide +kernel
theorem rW(T:Txt w K mg)(D:DefAt K mg "are_rooms" (top 6) ["one","other","pair"]):bT P w K mg base TH 1 "are_rooms" ["one","other","pair"] eH:=
 @eB P w K mg base TH "are_rooms" (top 6) ["one","other","pair"] ["one","other","pair"] 0 i7 D lD (fun f cdv A outer s H F E hr=>by
  have nd:=lD.nd
  exact (Fl.aT (Fl.cG (bB (nG (qO nE jX jB gA (aA aD) (aA (aZ (a9 rfl) aJ (aC (pv 2)) (aA aD))) (aA (dB rfl (bU cE rfl T.b_len PySem.boot_len (aM (aA (aZ (a9 rfl) aJ (aC (pv 0)) (aA aD))) aU))))) (qN (qO nE jX jB gA (aA aD) (aA (aZ (a9 rfl) aJ (aC (pv 2)) (aA aD))) (aA (dB rfl (bU cE rfl T.b_len PySem.boot_len (aM (aA (aZ (a9 rfl) aJ (aC (pv 1)) (aA aD))) aU)))))))))))
theorem jG:FnScope ["one","other","pairs","known","pair"] ["one","other","pairs"] (aP (top 7)):=by constructor<;>first|rfl|decide +kernel
theorem oO(T:Txt w K mg)(D:DefAt K mg "shows_alike" (top 7) ["one","other","pairs"])(c_signs_by:bT P w K mg base TH 1 "signs_by" ["reader"] cO)(c_same_word:bT P w K mg base TH 1 "same_word" ["one","other","pair"] eG)(c_are_rooms:bT P w K mg base TH 1 "are_rooms" ["one","other","pair"] eH)(c_after_pair:bT P w K mg base TH 1 "after_pair" ["one","other","pair"] dX):bT P w K mg base TH 2 "shows_alike" ["one","other","pairs"] c9:=
 @eB P w K mg base TH "shows_alike" (top 7) ["one","other","pairs","known","pair"] ["one","other","pairs"] 1 g9 D jG (fun f cdv A outer s H F E hr=>by
  have nd:=jG.nd
  exact (Fl.aG (Fl.cT (Fl.dA (qM rfl hr.units) mG (aA (fF (c6 rfl rfl rfl (cW c_signs_by (hr.mono (by decide)) rfl (cV fun _ _ _ h=>h) (aH (bC (pv 0)) bY))))) (aA (fF (c6 rfl rfl rfl (cW c_signs_by (hr.mono (by decide)) rfl (cV fun _ _ _ h=>h) (aH (bC (pv 1)) bY))))) (cQ _)) (Fl.aT (Fl.cG (bB fE))) Fl.bX)
   (Fl.aG (zS rfl rfl (L2.aO (i:=3) nd rfl (Or.inr rfl) (cK (uW rfl hr.units) rfl T.b_dict PyProof.Rows.boot_dict (aM (jC (i8 (N:=["pair"]) (js:=[none]) rfl (.own .nil) (by rfl) (qS rfl (aC (pv 2)))) (by decide) (by decide) (is:=[0]) (fun cl C s0 H0 fp=>⟨_,(cL (i:=0) (show (["pair"]:List Str).Nodup by decide +kernel) rfl (Or.inl rfl)),(cN 0),Fl.fN,(dW (bA (cX (pv 0)) (bA fE cC)))⟩)) aU))))
   (Fl.aG (Fl.cT (wG rfl rfl (nX (qV hr.units) (dW (bA aD (bA aD cC))) (pv 3) (by with_unfolding_all rfl))) (Fl.aT (Fl.cG (bB fE))) Fl.bX)
   (Fl.aG (wS rfl 3 (Fl.dQ (cN 4) (L2.dQ (f7 ⟨rfl,rfl⟩) rfl (aCA rfl (pv 3)) (cL (i:=4) nd rfl (Or.inl rfl))
   (Fl.aG (Fl.cT (PW.pt (Fl.lJ (Fl.fR (Fl.gM (fF (c6 rfl rfl rfl (cW c_are_rooms (hr.mono (by decide)) rfl (cV fun _ _ _ h=>h) (aH (bC (pv 0)) (aH (bC (pv 1)) (aH (bC (pv 4)) bY)))))))) (Fl.kH (Fl.fR (Fl.gM (fF (c6 rfl rfl rfl (cW c_same_word (hr.mono (by decide)) rfl (cV fun _ _ _ h=>h) (aH (bC (pv 0)) (aH (bC (pv 1)) (aH (bC (pv 4)) bY))))))))))) (Fl.aT (Fl.cG (bB fE))) Fl.bX)
   (Fl.aT (Fl.cT (Fl.fR (Fl.gM (aDZ rfl (bU (vS rfl) rfl T.b_all PyProof.Rows.boot_all (aM (aA (fD (jC (i8 (N:=["there","known"]) (js:=[none,some 3]) rfl (.own (.cap rfl (.inl rfl) (.inl rfl) .nil)) (by rfl) (qS rfl (aA (fF (c6 rfl rfl rfl (cW c_after_pair (hr.mono (by decide)) rfl (cV fun _ _ _ h=>h) (aH (bC (pv 0)) (aH (bC (pv 1)) (aH (bC (pv 4)) bY))))))))) (by decide) (by decide) (is:=[0]) (fun cl C s0 H0 fp=>⟨_,(cL (i:=0) (show (["there","known"]:List Str).Nodup by decide +kernel) rfl (Or.inl rfl)),(cN 0),Fl.fN,(aD3 (op:=.In) rfl rfl (sE (aBT hr.units) (cX (pv 0)) (pv 1) (by with_unfolding_all rfl)))⟩)))) aU))))) (Fl.aT (Fl.cG (bB fE))) Fl.bX))))))
   (Fl.aT (Fl.cG (bB fE))))))))
end
end Mc
namespace Mc
open PySem L2 PyProof.Rows Fl
section
variable{P:Program}{w:World}{K:Frag}{mg:Str->Option Value}{base:Heap}{TH:Hp}
theorem lE:FnScope ["_law_script","_law_k","_law_cell_here","_law_mixed"] ["_law_script","_law_k"] (aP (top 9)):=by constructor<;>first|rfl|decide +kernel
theorem rX(T:Txt w K mg)(D:DefAt K mg "_law_cell" (top 9) ["_law_script","_law_k"]):bT P w K mg base TH 1 "_law_cell" ["_law_script","_law_k"] bG:=
 @eB P w K mg base TH "_law_cell" (top 9) ["_law_script","_law_k","_law_cell_here","_law_mixed"] ["_law_script","_law_k"] 0 gK D lE (fun f cdv A outer s H F E hr=>by
  have nd:=lE.nd
  exact (Fl.aG (Fl.aO (L2.aO (i:=2) nd rfl (Or.inl rfl) (bB aD)))
   (Fl.aG (Fl.cT (Fl.dA aDX yO (aA (dB rfl (bU cE rfl T.b_len PySem.boot_len (aM (aC (pv 0)) aU)))) (aA aD) (cQ _)) (Fl.aT (Fl.aO (L2.aO (i:=2) nd rfl (Or.inl rfl) (bB (aZ (a9 rfl) aJ (aC (pv 0)) (aA (aI bH aX (aC (pv 1)) (aA (dB rfl (bU cE rfl T.b_len PySem.boot_len (aM (aC (pv 0)) aU))))))))))) Fl.bX)
   (Fl.aG (Fl.aO (L2.aO (i:=3) nd rfl (Or.inl rfl) (bB (aI bH aX (aA (aI iG fP (aA (aI (cJ rfl) bS (aA (aI (cJ rfl) bS (aA (aI bH aX (aC (pv 2)) (aA aD))) (aA (aI iG fP (aA aD) (aC (pv 1)))))) (aA aD))) (aA aD))) (aA aD)))))
   (Fl.aT (Fl.cG (bB (aI (cJ rfl) bS (aA (aI iG fP (aA (aI cM bV (aC (pv 2)) (aA aD))) (aA aD))) (aA (aI bH aX (aA (aI (cJ rfl) bS (aA (aI iG fP (aC (pv 3)) (aA aD))) (aA (aI iG fP (aA aD) (aC (pv 1)))))) (aA aD)))))))))))
theorem jH:FnScope ["_law_script","_law_at","_law_rooms","_law_signs","_law_words","_law_rows","_law_told_here","_law_room","_law_digits","_law_number","_law_row","_law_k"] ["_law_script","_law_at","_law_rooms","_law_signs","_law_words"] (aP (top 10)):=by constructor<;>first|rfl|decide +kernel
theorem oP(T:Txt w K mg)(D:DefAt K mg "_law_oneway" (top 10) ["_law_script","_law_at","_law_rooms","_law_signs","_law_words"])(c__law_cell:bT P w K mg base TH 1 "_law_cell" ["_law_script","_law_k"] bG):bT P w K mg base TH 2 "_law_oneway" ["_law_script","_law_at","_law_rooms","_law_signs","_law_words"] bQ:=
 @eB P w K mg base TH "_law_oneway" (top 10) ["_law_script","_law_at","_law_rooms","_law_signs","_law_words","_law_rows","_law_told_here","_law_room","_law_digits","_law_number","_law_row","_law_k"] ["_law_script","_law_at","_law_rooms","_law_signs","_law_words"] 1 hZ D jH (fun f cdv A outer s H F E hr=>by
  have nd:=jH.nd
  exact (Fl.aG (dG (L2.aO (i:=5) nd rfl (Or.inl rfl) (gS cC)))
   (Fl.aG (dG (L2.aO (i:=6) nd rfl (Or.inl rfl) (gS cC)))
   (Fl.aG (Fl.dQ (cN 7) (L2.dQ (f7 ⟨rfl,rfl⟩) rfl (oD (kJ rfl T.b_range (aM (aC (pv 2)) aU))) (cL (i:=7) nd rfl (Or.inl rfl))
   (Fl.aG (Fl.aO (L2.aO (i:=8) nd rfl (Or.inl rfl) (bB (nG (jA jB gA (aA (aI (cJ rfl) bS (aC (pv 1)) (aC (pv 7)))) (aA (dB rfl (bU cE rfl T.b_len PySem.boot_len (aM (aC (pv 0)) aU)))) (cQ _)) (qN (jA (dO rfl hr.units) cY (aA (aI bH aX (aA (aZ (a9 rfl) aJ (aC (pv 0)) (aA aD))) (aA aD))) (aA aD) (cQ _)))))))
   (Fl.aG (Fl.aO (L2.aO (i:=9) nd rfl (Or.inl rfl) (bB (aI bH aX (aA (fF (c6 rfl rfl rfl (cW c__law_cell (hr.mono (by decide)) rfl (cV fun _ _ _ h=>h) (aH (bC (pv 0)) (aH (bB (aI (cJ rfl) bS (aC (pv 1)) (aC (pv 7)))) bY)))))) (aA aD)))))
   (Fl.aG (Fl.cT (Fl.gM (cX (pv 8))) (Fl.aT (Fl.aO (L2.aO (i:=9) nd rfl (Or.inl rfl) (bB (aZ (a9 rfl) aJ (aC (pv 0)) (aA (aI (cJ rfl) bS (aC (pv 1)) (aC (pv 7))))))))) Fl.bX)
   (Fl.aG (dG (L2.aO (i:=10) nd rfl (Or.inl rfl) (gS cC)))
   (Fl.aG (Fl.dQ (cN 11) (L2.dQ (f7 ⟨rfl,rfl⟩) rfl (oD (kJ rfl T.b_range (aM (aC (pv 3)) aU))) (cL (i:=11) nd rfl (Or.inl rfl))
   (Fl.aG (Fl.cT (Fl.fR (Fl.gM (cX (pv 8)))) (Fl.aT (Fl.aO (L2.aO (i:=9) nd rfl (Or.inl rfl) (bB (aI cM bV (aA (aI bH aX (aA (aI (cJ rfl) bS (aA (aI iG fP (aC (pv 9)) (aA aD))) (aA aD))) (aA aD))) (aA aD)))))) Fl.bX)
   (Fl.aG (kW rfl (L2.fM (jP PySem.F.plainAttrs_list PySem.F.slot_list_append PySem.F.type_list_append gN (pv 10) (aM (aI bH aX (aC (pv 9)) (aC (pv 2))) aU))))
   (Fl.aT (Fl.aO (L2.aO (i:=9) nd rfl (Or.inl rfl) (bB (aI cM bV (aC (pv 9)) (aC (pv 2)))))))))))
   (Fl.aG (kW rfl (L2.fM (jP PySem.F.plainAttrs_list PySem.F.slot_list_append PySem.F.type_list_append gN (pv 6) (aM (aZ (a9 rfl) aJ (aA (fD (gS (bA gQ (bA gQ (bA gQ cC)))))) (aA (aI bH aX (aC (pv 9)) (aC (pv 4))))) aU))))
   (Fl.aT (kW rfl (L2.fM (jP PySem.F.plainAttrs_list PySem.F.slot_list_append PySem.F.type_list_append gN (pv 5) (aM (fH rfl (cK dE rfl T.b_tuple PyProof.Rows.boot_tuple (aM (aC (pv 10)) aU))) aU)))))))))))))
   (Fl.aT (Fl.cG (bB (dW (bA (fH rfl (cK dE rfl T.b_tuple PyProof.Rows.boot_tuple (aM (aC (pv 5)) aU))) (bA (fH rfl (cK dE rfl T.b_tuple PyProof.Rows.boot_tuple (aM (aC (pv 6)) aU))) cC))))))))))
theorem jI:FnScope ["_law_one","_law_two","_law_pair","_law_strips","_law_waiting","_law_at","_law_here","_law_there","_law_k","_law_after"] ["_law_one","_law_two","_law_pair"] (aP (top 11)):=by constructor<;>first|rfl|decide +kernel
theorem oQ(T:Txt w K mg)(D:DefAt K mg "_law_firsts" (top 11) ["_law_one","_law_two","_law_pair"]):bT P w K mg base TH 1 "_law_firsts" ["_law_one","_law_two","_law_pair"] eE:=
 @eB P w K mg base TH "_law_firsts" (top 11) ["_law_one","_law_two","_law_pair","_law_strips","_law_waiting","_law_at","_law_here","_law_there","_law_k","_law_after"] ["_law_one","_law_two","_law_pair"] 0 kF D jI (fun f cdv A outer s H F E hr=>by
  have nd:=jI.nd
  exact (Fl.aG (aB0 rfl rfl (L2.aO (i:=3) nd rfl (Or.inl rfl) (aBY hr.units (yX (cX (pv 2)) gQ aBZ))))
   (Fl.aG (dG (L2.aO (i:=4) nd rfl (Or.inl rfl) (gS (bA (cX (pv 2)) cC))))
   (Fl.aG (Fl.aO (L2.aO (i:=5) nd rfl (Or.inl rfl) (bB aD)))
   (Fl.aG (Fl.l8 (L2.l8 (f7 ⟨rfl,rfl⟩) (Fl.dA jB gA (aC (pv 5)) (aA (dB rfl (bU cE rfl T.b_len PySem.boot_len (aM (aC (pv 4)) aU)))) (cQ _))
   (Fl.aG (wH (nH rfl (eR (cN 6) (eR (cN 7) lR)) rfl) (iI (aZ (a9 rfl) aJ (aC (pv 4)) (aC (pv 5))) (mQ rfl (eP (cL (i:=6) nd rfl (Or.inl rfl)) (eP (cL (i:=7) nd rfl (Or.inl rfl)) lK)))))
   (Fl.aG (Fl.dQ (cN 8) (L2.dQ (f7 ⟨rfl,rfl⟩) rfl (oD (kJ rfl T.b_range (aM (aA (dB rfl (bU cE rfl T.b_len PySem.boot_len (aM (aA (aZ (a9 rfl) aJ (aA (aZ (a9 rfl) aJ (aC (pv 0)) (aA aD))) (aC (pv 6)))) aU)))) aU))) (cL (i:=8) nd rfl (Or.inl rfl))
   (Fl.aG (Fl.aO (L2.aO (i:=9) nd rfl (Or.inl rfl) (bB (dW (bA (aZ (a9 rfl) aJ (aA (aZ (a9 rfl) aJ (aA (aZ (a9 rfl) aJ (aC (pv 0)) (aA aD))) (aC (pv 6)))) (aC (pv 8))) (bA (aZ (a9 rfl) aJ (aA (aZ (a9 rfl) aJ (aA (aZ (a9 rfl) aJ (aC (pv 1)) (aA aD))) (aC (pv 7)))) (aC (pv 8))) cC))))))
   (Fl.aT (Fl.cT (wG rfl rfl (nX (qV hr.units) (cX (pv 9)) (pv 3) (by with_unfolding_all rfl))) (Fl.aG (Fl.sY rfl rfl (iI (aI (cJ rfl) bS (aA (sX rfl rfl (sW hr.units (pv 3) (dW (bA (cX (pv 6)) (bA (cX (pv 7)) cC))) (fun _ _=>rfl)))) (aA (aZ (a9 rfl) aJ (aA gQ) (aC (pv 8))))) (kI (pv 3) (cX (pv 9)) (qX hr.units))))
   (Fl.aT (kW rfl (L2.fM (jP PySem.F.plainAttrs_list PySem.F.slot_list_append PySem.F.type_list_append gN (pv 4) (aM (cX (pv 9)) aU)))))) Fl.bX)))))
   (Fl.aT (Fl.aO (L2.aO (i:=5) nd rfl (Or.inl rfl) (bB (aI (cJ rfl) bS (aC (pv 5)) (aA aD))))))))))
   (Fl.aT (wS rfl 3 (Fl.cG (bC (pv 3))))))))))
theorem l7:FnScope ["_law_one","_law_two","_law_pairs","_law_here","_law_there"] ["_law_one","_law_two","_law_pairs"] (aP (top 12)):=by constructor<;>first|rfl|decide +kernel
theorem sD(T:Txt w K mg)(D:DefAt K mg "_law_due" (top 12) ["_law_one","_law_two","_law_pairs"]):bT P w K mg base TH 1 "_law_due" ["_law_one","_law_two","_law_pairs"] cR:=
 @eB P w K mg base TH "_law_due" (top 12) ["_law_one","_law_two","_law_pairs","_law_here","_law_there"] ["_law_one","_law_two","_law_pairs"] 0 gD D l7 (fun f cdv A outer s H F E hr=>by
  have nd:=l7.nd
  exact (Fl.aG (Fl.cT (PW.pt (Fl.lJ (Fl.dA (qM rfl hr.units) mG (aA (dB rfl (bU cE rfl T.b_len PySem.boot_len (aM (aA (aZ (a9 rfl) aJ (aA (aZ (a9 rfl) aJ (aC (pv 0)) (aA aD))) (aA aD))) aU)))) (aA (dB rfl (bU cE rfl T.b_len PySem.boot_len (aM (aA (aZ (a9 rfl) aJ (aA (aZ (a9 rfl) aJ (aC (pv 1)) (aA aD))) (aA aD))) aU)))) (cQ _)) (Fl.kH (Fl.dA (aBN rfl hr.units) v7 (aA (dW (bA aD (bA aD cC)))) (aC (pv 2)) (by with_unfolding_all rfl))))) (Fl.aT (Fl.cG (bB fE))) Fl.bX)
   (Fl.aG (Fl.dQ (nH rfl (eR (cN 3) (eR (cN 4) lR)) rfl) (L2.dQ (f7 ⟨rfl,rfl⟩) rfl (aG9 rfl (cX (pv 2))) (mQ rfl (eP (cL (i:=3) nd rfl (Or.inl rfl)) (eP (cL (i:=4) nd rfl (Or.inl rfl)) lK)))
   (Fl.aG (Fl.cT (PW.pt (Fl.lJ (Fl.fR (Fl.jN nE jX jB gA (aA aD) (aC (pv 3)) (aA (dB rfl (bU cE rfl T.b_len PySem.boot_len (aM (aA (aZ (a9 rfl) aJ (aC (pv 0)) (aA aD))) aU)))))) (Fl.lJ (Fl.fR (Fl.jN nE jX jB gA (aA aD) (aC (pv 4)) (aA (dB rfl (bU cE rfl T.b_len PySem.boot_len (aM (aA (aZ (a9 rfl) aJ (aC (pv 1)) (aA aD))) aU)))))) (Fl.kH (Fl.dA (qM rfl hr.units) mG (aA (aZ (a9 rfl) aJ (aA (aZ (a9 rfl) aJ (aC (pv 0)) (aA aD))) (aC (pv 3)))) (aA (aZ (a9 rfl) aJ (aA (aZ (a9 rfl) aJ (aC (pv 1)) (aA aD))) (aC (pv 4)))) (cQ _)))))) (Fl.aT (Fl.cG (bB fE))) Fl.bX)
   (Fl.aT (Fl.cT (Fl.dA (v8 rfl hr.units) qL (aA fE) (aA (fD (jC (i8 (N:=["_law_pair","_law_pairs"]) (js:=[none,some 2]) rfl (.own (.cap rfl (.inl rfl) (.inl rfl) .nil)) (by rfl) (aB4 rfl (L2.aCQ rfl T.b_zip (aM (aA (aZ (a9 rfl) aJ (aA (aZ (a9 rfl) aJ (aC (pv 0)) (aA aD))) (aC (pv 3)))) (aM (aA (aZ (a9 rfl) aJ (aA (aZ (a9 rfl) aJ (aC (pv 1)) (aA aD))) (aC (pv 4)))) aU))))) (by decide) (by decide) (is:=[0]) (fun cl C s0 H0 fp=>⟨_,(cL (i:=0) (show (["_law_pair","_law_pairs"]:List Str).Nodup by decide +kernel) rfl (Or.inl rfl)),(cN 0),Fl.fN,(jA (v8 rfl hr.units) qL (aC (pv 0)) (aC (pv 1)) (by with_unfolding_all rfl))⟩)))) (by with_unfolding_all rfl)) (Fl.aT (Fl.cG (bB fE))) Fl.bX)))))
   (Fl.aT (Fl.cG (bB fE))))))
theorem jJ:FnScope ["_law_machine","_law_cut","_law_rows","_law_words","_law_order","_law_place","_law_k","_law_room","_law_made"] ["_law_machine","_law_cut"] (aP (top 13)):=by constructor<;>first|rfl|decide +kernel
theorem oR(T:Txt w K mg)(D:DefAt K mg "_law_turned" (top 13) ["_law_machine","_law_cut"]):bT P w K mg base TH 1 "_law_turned" ["_law_machine","_law_cut"] c8:=
 @eB P w K mg base TH "_law_turned" (top 13) ["_law_machine","_law_cut","_law_rows","_law_words","_law_order","_law_place","_law_k","_law_room","_law_made"] ["_law_machine","_law_cut"] 0 fC D jJ (fun f cdv A outer s H F E hr=>by
  have nd:=jJ.nd
  exact (Fl.aG (wH (nH rfl (eR (cN 2) (eR (cN 3) lR)) rfl) (iI (cX (pv 0)) (mQ rfl (eP (cL (i:=2) nd rfl (Or.inr rfl)) (eP (cL (i:=3) nd rfl (Or.inr rfl)) lK)))))
   (Fl.aG (dG (L2.aO (i:=4) nd rfl (Or.inl rfl) (wV (cK (oH rfl) rfl T.b_list PyProof.Rows.boot_list (aM (cK rE rfl T.b_range PyProof.Rows.boot_range (aM (aA aD) (aM (aA (dB rfl (bU cE rfl T.b_len PySem.boot_len (aM (aC (pv 2)) aU)))) aU))) aU)))))
   (Fl.aG (Fl.aO (L2.aO (i:=1) nd rfl (Or.inl rfl) (bB (aI bH aX (aC (pv 1)) (aA (aD8 (G:=gZ) (bU (vH rfl) rfl T.b_max PyProof.Rows.boot_max (aM (aA aD) (aM (aA (dB rfl (bU cE rfl T.b_len PySem.boot_len (aM (aC (pv 4)) aU)))) aU)))))))))
   (Fl.aG (dG (L2.aO (i:=4) nd rfl (Or.inl rfl) (nM rfl (aA (fD (nM rfl (aA (fD (gS (bA aD cC)))) (aA (iN rfl (aC (pv 4)) (nK (aC (pv 1))) nJ))))) (aA (iN rfl (aC (pv 4)) nJ (nK (aC (pv 1))))))))
   (Fl.aG (aBS rfl (L2.aO (i:=5) nd rfl (Or.inr rfl) aBR))
   (Fl.aG (lQ 4 (Fl.dQ (nH rfl (eR (cN 6) (eR (cN 7) lR)) rfl) (L2.dQ (f7 ⟨rfl,rfl⟩) rfl (aB7 rfl (L2.aB5 rfl T.b_enumerate (aM (cX (pv 4)) aU))) (mQ rfl (eP (cL (i:=6) nd rfl (Or.inl rfl)) (eP (cL (i:=7) nd rfl (Or.inl rfl)) lK)))
   (Fl.aT (Fl.sY rfl rfl (iI (cX (pv 6)) (kI (pv 5) (cX (pv 7)) (qX hr.units))))))))
   (Fl.aG (aBP (L2.t7 (i:=8) nd rfl (Or.inl rfl) (by rfl) (N:=["_law_room","_law_rows","_law_place"]) (js:=[none,some 2,some 5]) rfl (.own (.cap rfl (.inl rfl) (.inl rfl) (.cap rfl (.inl rfl) (.inl rfl) .nil))) (by rfl) (qS rfl (aC (pv 4)))) (by decide) (by decide) (is:=[0]) (fun cl C s0 H0 fp=>⟨_,(cL (i:=0) (show (["_law_room","_law_rows","_law_place"]:List Str).Nodup by decide +kernel) rfl (Or.inl rfl)),(cN 0),Fl.fN,(fH rfl (cK dE rfl T.b_tuple PyProof.Rows.boot_tuple (aM (aA (fD (jC (i8 (N:=["_law_after","_law_place"]) (js:=[none,some 2]) rfl (.own (.cap rfl (by first|exact .inl rfl|exact .inr rfl) (by first|exact .inl rfl|exact .inr rfl) .nil)) (by rfl) (qS rfl (aA (aZ (a9 rfl) aJ (aC (pv 1)) (aC (pv 0)))))) (by decide) (by decide) (is:=[0]) (fun cl C s0 H0 fp=>⟨_,(cL (i:=0) (show (["_law_after","_law_place"]:List Str).Nodup by decide +kernel) rfl (Or.inl rfl)),(cN 0),Fl.fN,(sX rfl rfl (sW hr.units (pv 1) (cX (pv 0)) (fun _ _=>rfl)))⟩)))) aU)))⟩))
   (Fl.aT (Fl.cG (bB (dW (bA (fH rfl (cK dE rfl T.b_tuple PyProof.Rows.boot_tuple (aM (aC (pv 8)) aU))) (bA (fH rfl (cK dE rfl T.b_tuple PyProof.Rows.boot_tuple (aM (aA (fD (jC (i8 (N:=["_law_room","_law_words"]) (js:=[none,some 3]) rfl (.own (.cap rfl (.inl rfl) (.inl rfl) .nil)) (by rfl) (qS rfl (aC (pv 4)))) (by decide) (by decide) (is:=[0]) (fun cl C s0 H0 fp=>⟨_,(cL (i:=0) (show (["_law_room","_law_words"]:List Str).Nodup by decide +kernel) rfl (Or.inl rfl)),(cN 0),Fl.fN,(aZ (a9 rfl) aJ (aC (pv 1)) (aC (pv 0)))⟩)))) aU))) cC))))))))))))))
end
end Mc
namespace Mc
open PySem L2 PyProof.Rows Fl
section
variable{P:Program}{w:World}{K:Frag}{mg:Str->Option Value}{base:Heap}{TH:Hp}
theorem jK:FnScope ["_law_pairs","_law_how","_law_cell_here","_law_at","_law_made"] ["_law_pairs","_law_how","_law_cell_here"] (aP (top 14)):=by constructor<;>first|rfl|decide +kernel
theorem oS(T:Txt w K mg)(D:DefAt K mg "_law_spoilt" (top 14) ["_law_pairs","_law_how","_law_cell_here"]):bT P w K mg base TH 1 "_law_spoilt" ["_law_pairs","_law_how","_law_cell_here"] bF:=
 @eB P w K mg base TH "_law_spoilt" (top 14) ["_law_pairs","_law_how","_law_cell_here","_law_at","_law_made"] ["_law_pairs","_law_how","_law_cell_here"] 0 bJ D jK (fun f cdv A outer s H F E hr=>by
  have nd:=jK.nd
  exact (Fl.aG (Fl.aO (L2.aO (i:=3) nd rfl (Or.inl rfl) (bB (aI bH aX (aC (pv 2)) (aA (dB rfl (bU cE rfl T.b_len PySem.boot_len (aM (aC (pv 0)) aU))))))))
   (Fl.aG (dG (L2.aO (i:=4) nd rfl (Or.inl rfl) (oB rfl (cK iJ rfl T.b_list PyProof.Rows.boot_list (aM (aC (pv 0)) aU)))))
   (Fl.aG (Fl.cT (Fl.dA (dO rfl hr.units) cY (aC (pv 1)) (aA aD) (cQ _)) (Fl.aT (zW (L2.fM (jP PySem.F.plainAttrs_list PySem.F.slot_list_pop PySem.F.type_list_pop yB (pv 4) (aM (cX (pv 3)) aU))))) Fl.bX)
   (Fl.aG (Fl.cT (Fl.dA (dO rfl hr.units) cY (aC (pv 1)) (aA aD) (cQ _)) (Fl.aT (kW rfl (L2.fM (jP PySem.F.plainAttrs_list PySem.F.slot_list_append PySem.F.type_list_append gN (pv 4) (aM (dW (bA (aI bH aX (aA (aI cM bV (aC (pv 2)) (aA aD))) (aA aD)) (bA (aI bH aX (aA (aI cM bV (aC (pv 2)) (aA aD))) (aA aD)) cC))) aU))))) Fl.bX)
   (Fl.aG (Fl.cT (Fl.dA (dO rfl hr.units) cY (aC (pv 1)) (aA aD) (cQ _)) (Fl.aT (qQ (iI (dW (bA (aZ (a9 rfl) aJ (aA (aZ (a9 rfl) aJ (aC (pv 4)) (aC (pv 3)))) (aA aD)) (bA (aI (cJ rfl) bS (aA aD) (aA (aI bH aX (aA (aI cM bV (aC (pv 2)) (aA aD))) (aA (aI aCR xN (aA aD) (aA aD)))))) cC))) (kI (pv 4) (aC (pv 3)) mB)))) Fl.bX)
   (Fl.aG (Fl.cT (Fl.dA (dO rfl hr.units) cY (aC (pv 1)) (aA aD) (cQ _)) (Fl.aT (qQ (iI (dW (bA (aI sO o9 (aA (aAN sP pA (aA aD))) (aA (aI bH aX (aA (aI cM bV (aC (pv 2)) (aA aD))) (aA aD)))) (bA (aZ (a9 rfl) aJ (aA (aZ (a9 rfl) aJ (aC (pv 4)) (aC (pv 3)))) (aA aD)) cC))) (kI (pv 4) (aC (pv 3)) mB)))) Fl.bX)
   (Fl.aG (Fl.cT (Fl.dA (dO rfl hr.units) cY (aC (pv 1)) (aA aD) (cQ _)) (Fl.aT (aEX (L2.fM (jP PySem.F.plainAttrs_list PySem.F.slot_list_insert PySem.F.type_list_insert xM (pv 4) (aM (cX (pv 3)) (aM (dW (bA (aZ (a9 rfl) aJ (aA (aZ (a9 rfl) aJ (aC (pv 4)) (aC (pv 3)))) (aA aD)) (bA (aI sO o9 (aA (aAN sP pA (aA aD))) (aA (aI bH aX (aA (aI cM bV (aC (pv 2)) (aA aD))) (aA aD)))) cC))) aU)))))) Fl.bX)
   (Fl.aG (Fl.cT (PW.pt (Fl.pY (Fl.dA (dO rfl hr.units) cY (aC (pv 1)) (aA aD) (cQ _)) (Fl.nW (Fl.dA (dO rfl hr.units) cY (aA (aI bH aX (aA (aI cM bV (aC (pv 2)) (aA aD))) (aA aD))) (aA aD) (cQ _))))) (Fl.aT (dG (L2.aO (i:=4) nd rfl (Or.inl rfl) (gS cC)))) Fl.bX)
   (Fl.aT (lQ 4 (Fl.cG (bC (pv 4))))))))))))))
theorem lF:FnScope ["_law_one","_law_two","_law_pairs","_law_handed","_law_found"] ["_law_one","_law_two","_law_pairs"] (aP (top 15)):=by constructor<;>first|rfl|decide +kernel
theorem rY(T:Txt w K mg)(D:DefAt K mg "_law_told" (top 15) ["_law_one","_law_two","_law_pairs"])(c_shows_alike:bT P w K mg base TH 2 "shows_alike" ["one","other","pairs"] c9)(c__law_due:bT P w K mg base TH 1 "_law_due" ["_law_one","_law_two","_law_pairs"] cR):bT P w K mg base TH 3 "_law_told" ["_law_one","_law_two","_law_pairs"] b8:=
 @eB P w K mg base TH "_law_told" (top 15) ["_law_one","_law_two","_law_pairs","_law_handed","_law_found"] ["_law_one","_law_two","_law_pairs"] 2 fZ D lF (fun f cdv A outer s H F E hr=>by
  have nd:=lF.nd
  exact (Fl.aG (dG (L2.aO (i:=3) nd rfl (Or.inl rfl) (oB rfl (cK iJ rfl T.b_list PyProof.Rows.boot_list (aM (aC (pv 2)) aU)))))
   (Fl.aG (lQ 3 (Fl.aO (L2.aO (i:=4) nd rfl (Or.inl rfl) (c6 rfl rfl rfl (cW c_shows_alike (hr.mono (by decide)) rfl (cV fun _ _ _ h=>h) (aH (bC (pv 0)) (aH (bC (pv 1)) (aH (bC (pv 3)) bY))))))))
   (Fl.aT (Fl.cG (bB (nG (aD2 (bU (yV rfl (yS _)) rfl T.b_isinstance PyProof.Rows.boot_isinstance (aM (aC (pv 4)) (aM (aA3 (v:=.ty "bool") rfl T.b_bool PyProof.Rows.boot_bool rfl) aU)))) (nG (jA (dO rfl hr.units) cY (aC (pv 4)) (aA (fF (c6 rfl rfl rfl (cW c__law_due (hr.mono (by decide)) rfl (cV fun _ _ _ h=>h) (aH (bC (pv 0)) (aH (bC (pv 1)) (aH (bC (pv 2)) bY))))))) (cQ _)) (qN (jA (dO rfl hr.units) cY (aC (pv 3)) (aC (pv 2)) (cQ _)))))))))))
theorem xO:FnScope ["_law_script","_law_cell_here","_law_signs","_law_rooms","_law_one","_law_two","_law_pairs","_law_cut","_law_more","_law_words"] ["_law_script"] (aP (top 16)):=by constructor<;>first|rfl|decide +kernel
theorem aEY(T:Txt w K mg){fL:Addr}{fdL:FuncData}(FL:Fun K "law" "law" (top 16) fL fdL)(c__law_cell:bT P w K mg base TH 1 "_law_cell" ["_law_script","_law_k"] bG)(c__law_oneway:bT P w K mg base TH 2 "_law_oneway" ["_law_script","_law_at","_law_rooms","_law_signs","_law_words"] bQ)(c__law_turned:bT P w K mg base TH 1 "_law_turned" ["_law_machine","_law_cut"] c8)(c__law_firsts:bT P w K mg base TH 1 "_law_firsts" ["_law_one","_law_two","_law_pair"] eE)(c__law_told:bT P w K mg base TH 3 "_law_told" ["_law_one","_law_two","_law_pairs"] b8)(c__law_spoilt:bT P w K mg base TH 1 "_law_spoilt" ["_law_pairs","_law_how","_law_cell_here"] bF):FnOk P w K mg base (CXe P w) 4 fL fdL ["_law_script"] (spF (gOf P w K mg base TH) K mg 1 pT):=
 @aD5 P w K mg base TH "law" (top 16) ["_law_script","_law_cell_here","_law_signs","_law_rooms","_law_one","_law_two","_law_pairs","_law_cut","_law_more","_law_words"] ["_law_script"] 3 fL fdL u0 FL xO (fun cdv A outer s H F E hr=>by
  have nd:=xO.nd
  exact (Fl.aG (Fl.aO (L2.aO (i:=1) nd rfl (Or.inl rfl) (c6 rfl rfl rfl (cW c__law_cell (hr.mono (by decide)) rfl (cV fun _ _ _ h=>h) (aH (bC (pv 0)) (aH (bB aD) bY))))))
   (Fl.aG (Fl.aO (L2.aO (i:=2) nd rfl (Or.inl rfl) (bB (aI (cJ rfl) bS (aA aD) (aA (aI bH aX (aC (pv 1)) (aA aD)))))))
   (Fl.aG (Fl.aO (L2.aO (i:=3) nd rfl (Or.inl rfl) (bB (aI (cJ rfl) bS (aA aD) (aA (aI bH aX (aA (aI cM bV (aC (pv 1)) (aA aD))) (aA aD)))))))
   (Fl.aG (Fl.aO (L2.aO (i:=4) nd rfl (Or.inl rfl) (c6 rfl rfl rfl (cW c__law_oneway (hr.mono (by decide)) rfl (cV fun _ _ _ h=>h) (aH (bC (pv 0)) (aH (bB aD) (aH (bC (pv 3)) (aH (bC (pv 2)) (aH (bB (aI (cJ rfl) bS (aA aD) (aA (aI bH aX (aA (aI cM bV (aC (pv 1)) (aA aD))) (aA aD))))) bY)))))))))
   (Fl.aG (Fl.aO (L2.aO (i:=5) nd rfl (Or.inl rfl) (c6 rfl rfl rfl (cW c__law_turned (hr.mono (by decide)) rfl (cV fun _ _ _ h=>h) (aH (bC (pv 4)) (aH (c6 rfl rfl rfl (cW c__law_cell (hr.mono (by decide)) rfl (cV fun _ _ _ h=>h) (aH (bC (pv 0)) (aH (bB aD) bY)))) bY))))))
   (Fl.aG (Fl.cT (Fl.dA (dO rfl hr.units) cY (aA (aI bH aX (aA (aI cM bV (aC (pv 1)) (aA aD))) (aA aD))) (aA aD) (cQ _)) (Fl.aT (Fl.aO (L2.aO (i:=5) nd rfl (Or.inl rfl) (c6 rfl rfl rfl (cW c__law_oneway (hr.mono (by decide)) rfl (cV fun _ _ _ h=>h) (aH (bC (pv 0)) (aH (bB (aI (cJ rfl) bS (aA aD) (aC (pv 3)))) (aH (bB (aI (cJ rfl) bS (aA aD) (aA (aI bH aX (aA (fF (c6 rfl rfl rfl (cW c__law_cell (hr.mono (by decide)) rfl (cV fun _ _ _ h=>h) (aH (bC (pv 0)) (aH (bB aD) bY)))))) (aA aD))))) (aH (bC (pv 2)) (aH (bB (aI (cJ rfl) bS (aA aD) (aA (aI bH aX (aA (aI cM bV (aC (pv 1)) (aA aD))) (aA aD))))) bY)))))))))) Fl.bX)
   (Fl.aG (dG (L2.aO (i:=6) nd rfl (Or.inl rfl) (zU rfl rfl (cK (uX rfl) rfl T.b_list PyProof.Rows.boot_list (aM (c6 rfl rfl rfl (cW c__law_firsts (hr.mono (by decide)) rfl (cV fun _ _ _ h=>h) (aH (bC (pv 4)) (aH (bC (pv 5)) (aH (bB (dW (bA aD (bA aD cC)))) bY))))) aU)))))
   (Fl.aG (Fl.aO (L2.aO (i:=7) nd rfl (Or.inl rfl) (bB (aI bH aX (aA (fF (c6 rfl rfl rfl (cW c__law_cell (hr.mono (by decide)) rfl (cV fun _ _ _ h=>h) (aH (bC (pv 0)) (aH (bB aD) bY)))))) (aA (dB rfl (bU cE rfl T.b_len PySem.boot_len (aM (aC (pv 6)) aU))))))))
   (Fl.aG (dG (L2.aO (i:=6) nd rfl (Or.inl rfl) (nM rfl (aA (fD (nM rfl (aA (iN rfl (aC (pv 6)) (nK (aC (pv 7))) nJ)) (aA (iN rfl (aC (pv 6)) nJ (nK (aC (pv 7)))))))) (aA (iN rfl (aC (pv 6)) nJ (nK (aA (aI bH aX (aA (aI cM bV (aA (fF (c6 rfl rfl rfl (cW c__law_cell (hr.mono (by decide)) rfl (cV fun _ _ _ h=>h) (aH (bC (pv 0)) (aH (bB aD) bY)))))) (aA aD))) (aA (aI (cJ rfl) bS (aA (dB rfl (bU cE rfl T.b_len PySem.boot_len (aM (aC (pv 6)) aU)))) (aA aD)))))))))))
   (Fl.aG (lQ 6 (Fl.cT (Fl.fR (Fl.gM (fF (c6 rfl rfl rfl (cW c__law_told (hr.mono (by decide)) rfl (cV fun _ _ _ h=>h) (aH (bC (pv 4)) (aH (bC (pv 5)) (aH (bC (pv 6)) bY)))))))) (Fl.aT (Fl.cG (bB fE))) Fl.bX))
   (Fl.aG (Fl.aO (L2.aO (i:=8) nd rfl (Or.inl rfl) (bB (aI bH aX (aA (fF (c6 rfl rfl rfl (cW c__law_cell (hr.mono (by decide)) rfl (cV fun _ _ _ h=>h) (aH (bC (pv 0)) (aH (bB aD) bY)))))) (aA aD)))))
   (Fl.aG (Fl.cT (Fl.dA (dO rfl hr.units) cY (aA (aI bH aX (aA (aI cM bV (aC (pv 1)) (aA aD))) (aA aD))) (aA aD) (cQ _)) (Fl.aT (lQ 6 (Fl.cG (c6 rfl rfl rfl (cW c__law_told (hr.mono (by decide)) rfl (cV fun _ _ _ h=>h) (aH (bC (pv 4)) (aH (c6 rfl rfl rfl (cW c__law_oneway (hr.mono (by decide)) rfl (cV fun _ _ _ h=>h) (aH (bC (pv 0)) (aH (bB aD) (aH (bC (pv 3)) (aH (bB (aI (cJ rfl) bS (aA aD) (aA (aI bH aX (aC (pv 2)) (aA aD))))) (aH (bB aD) bY))))))) (aH (bC (pv 6)) bY)))))))) Fl.bX)
   (Fl.aG (Fl.cT (Fl.dA (dO rfl hr.units) cY (aA (aI bH aX (aC (pv 8)) (aA aD))) (aA aD) (cQ _)) (Fl.aG (dG (L2.aO (i:=9) nd rfl (Or.inl rfl) (oB rfl (cK iJ rfl T.b_list PyProof.Rows.boot_list (aM (aA (aZ (a9 rfl) aJ (aC (pv 5)) (aA aD))) aU)))))
   (Fl.aG (qQ (iI (aZ (a9 rfl) aJ (aA (fD (gS (bA gQ (bA gQ (bA gQ cC)))))) (aA (aI bH aX (aA (aI cM bV (aC (pv 8)) (aA aD))) (aA aD)))) (kI (pv 9) (aA (aI bH aX (aA (aI cM bV (aC (pv 8)) (aA aD))) (aA (dB rfl (bU cE rfl T.b_len PySem.boot_len (aM (aC (pv 9)) aU)))))) mB)))
   (Fl.aT (Fl.aO (L2.aO (i:=5) nd rfl (Or.inl rfl) (bB (dW (bA (aZ (a9 rfl) aJ (aC (pv 5)) (aA aD)) (bA (fH rfl (cK dE rfl T.b_tuple PyProof.Rows.boot_tuple (aM (aC (pv 9)) aU))) cC))))))))) Fl.bX)
   (Fl.aT (lQ 6 (Fl.cG (c6 rfl rfl rfl (cW c__law_told (hr.mono (by decide)) rfl (cV fun _ _ _ h=>h) (aH (bC (pv 4)) (aH (bC (pv 5)) (aH (c6 rfl rfl rfl (cW c__law_spoilt (hr.mono (by decide)) rfl (cV fun _ _ _ h=>h) (aH (bC (pv 6)) (aH (bB (aI bH aX (aC (pv 8)) (aA aD))) (aH (bB (aI cM bV (aC (pv 8)) (aA aD))) bY))))) bY))))))))))))))))))))))
end
end Mc
namespace Mc
open PySem L2 PyProof.Rows Fl
theorem zX{fs:PyData->Sg->Option Sg}{fb:Sg->R Fw}{x:PyData}{xs:List PyData}{ρ ρ1:Sg}{a:A}(h1:fs x ρ=some ρ1)(h2:fb ρ1=.ok (.rt a)):eS fs fb (x::xs) ρ=.ok (.rt a):=by
 unfold eS
 rw[h1,show mH (some ρ1)=R.ok ρ1 from rfl,R.bind_ok,h2,R.bind_ok]
theorem zY{fs:PyData->Sg->Option Sg}{fb:Sg->R Fw}{x:PyData}{xs:List PyData}{ρ ρ1 ρ2:Sg}(h1:fs x ρ=some ρ1)(h2:fb ρ1=.ok (.nx ρ2)):eS fs fb (x::xs) ρ=eS fs fb xs ρ2:=by
 conv=>lhs;unfold eS
 rw[h1,show mH (some ρ1)=R.ok ρ1 from rfl,R.bind_ok,h2,R.bind_ok]
theorem lG{fs:PyData->Sg->Option Sg}{fb:Sg->R Fw}{good:PyData->Bool}{J:Sg->Prop}{a:A}:∀ (xs:List PyData),(∀ x∈xs,∀ ρ,J ρ->∃ ρ1,fs x ρ=some ρ1/\((good x=true/\∃ ρ2,fb ρ1=.ok (.nx ρ2)/\J ρ2)\/(good x=false/\fb ρ1=.ok (.rt a))))->∀ ρ,J ρ->
  (xs.all good=true/\∃ ρ',eS fs fb xs ρ=.ok (.nx ρ')/\J ρ')\/(xs.all good=false/\eS fs fb xs ρ=.ok (.rt a))
 | [],_,ρ,j=>.inl ⟨rfl,ρ,rfl,j⟩
 | x::t,h,ρ,j=>by
  obtain ⟨ρ1,h1,⟨g,ρ2,h2,j2⟩|⟨g,h2⟩⟩:=h x List.mem_cons_self ρ j
  ·rw[zY h1 h2,List.all_cons,g,Bool.true_and]
   exact lG t (fun y hy=>h y (List.mem_cons_of_mem _ hy)) ρ2 j2
  ·rw[zX h1 h2,List.all_cons,g]
   exact .inr ⟨rfl,rfl⟩
def prI(p:Int×Int):PyData:=.tuple [.int p.1,.int p.2]
theorem rZ(p:Int×Int):SeqAt.shaped (prI p)=true:=Sh.shaped (n:=1) (vU fun x hx=>by
 rcases List.mem_cons.mp hx with rfl|hx
 · exact m7 _ _
 · rw [List.mem_singleton.mp hx]; exact m7 _ _) (by decide)
theorem xP(ps:List (Int×Int)):Cp (.list (ps.map prI)):=by
 refine ⟨tM fun x hx=>?_,Sh.shaped (n:=2) (sh_lst fun x hx=>?_) (by decide)⟩
 ·obtain ⟨p,_,rfl⟩:=List.mem_map.mp hx;rfl
 ·obtain ⟨p,_,rfl⟩:=List.mem_map.mp hx
  exact vU fun x hx=>by
   rcases List.mem_cons.mp hx with rfl|hx
   · exact m7 _ _
   · rw [List.mem_singleton.mp hx]; exact m7 _ _
theorem xQ(p:Int×Int)(ps:List (Int×Int)):inD (prI p) (.list (ps.map prI))=some (decide (prI p∈ps.map prI)):=by
 show (if SeqAt.shaped (prI p)=true/\SeqAt.shaped (.list (ps.map prI))=true then some ((ps.map prI).any fun z=>PyData.eqv z (prI p)) else none)=_
 rw[if_pos ⟨rZ p,(xP ps).sh⟩]
 congr 1
 rw[Bool.eq_iff_iff,List.any_eq_true,decide_eq_true_iff]
 constructor
 ·rintro ⟨x,hx,e⟩
  obtain ⟨q,_,rfl⟩:=List.mem_map.mp hx
  rw[xD rfl rfl (rZ _),decide_eq_true_iff] at e
  rw[<-e];exact hx
 ·intro hx
  exact ⟨_,hx,by rw[xD rfl rfl (rZ _)];exact decide_eq_true rfl⟩
theorem aCS(p:Int×Int)(ps:List (Int×Int)):dIn (prI p) (.list (ps.map prI))=.ok (.bool (decide (prI p∈ps.map prI))):=by
 unfold dIn;rw[xQ]
theorem zZ(p:Int×Int)(ps:List (Int×Int)):dNin (prI p) (.list (ps.map prI))=.ok (.bool (!decide (prI p∈ps.map prI))):=by
 unfold dNin;rw[xQ]
theorem xR(bs:List Bool):dIn (.bool false) (.list (bs.map .bool))=.ok (.bool (!bs.all id)):=by
 have hs:SeqAt.shaped (.list (bs.map .bool))=true:=Sh.shaped (n:=1) (sh_lst fun x hx=>by
  obtain ⟨b,_,rfl⟩:=List.mem_map.mp hx;exact ⟨rfl,Nat.zero_le _⟩) (by decide)
 have:inD (.bool false) (.list (bs.map .bool))=some (!bs.all id):=by
  show (if SeqAt.shaped (.bool false)=true/\SeqAt.shaped (.list (bs.map .bool))=true then some ((bs.map PyData.bool).any fun z=>PyData.eqv z (.bool false)) else none)=_
  rw[if_pos ⟨by rfl,hs⟩]
  congr 1
  rw[List.any_map]
  clear hs
  induction bs with
  | nil=>rfl
  | cons b t ih=>
   rw[List.any_cons,List.all_cons,ih,Bool.not_and]
   cases b<;>rfl
 unfold dIn;rw[this]
theorem xS(bs:List Bool):jZ (bs.map .bool)=some bs:=by
 induction bs with
 | nil=>rfl
 | cons b t ih=>rw[List.map_cons,jZ,ih];rfl
theorem z0(bs:List Bool):dAll (.list (bs.map .bool))=.ok (.bool (bs.all id)):=by
 unfold dAll;simp only;rw[xS]
theorem pK(kvs:List (PyData×PyData))(k v:PyData):(∀ x,x∈(putM kvs k v).map (·.1)↔x∈kvs.map (·.1)\/x=k)/\(putM kvs k v).length<=kvs.length+1:=by
 unfold putM
 split
 ·rename_i h
  have hm:=iO.mp h
  have hk:(kvs.map fun p=>if p.1=k then (p.1,v) else p).map (·.1)=kvs.map (·.1):=by
   rw[List.map_map]
   refine List.map_congr_left fun p _=>?_
   show (if p.1=k then (p.1,v) else p).1=p.1
   split<;>rfl
  refine ⟨fun x=>?_,by rw[List.length_map];omega⟩
  rw[hk]
  exact ⟨.inl,fun q=>q.elim id fun e=>e▸hm⟩
 ·refine ⟨fun x=>?_,by rw[List.length_append];exact Nat.le_refl _⟩
  rw[List.map_append,List.mem_append]
  exact ⟨fun q=>q.imp id fun e=>List.mem_singleton.mp e,fun q=>q.imp id fun e=>List.mem_singleton.mpr e⟩
theorem aCT(ps:List (Int×Int)):∀ (acc:List (PyData×PyData)),(∀ x∈acc.map (·.1),f8 x=true)->acc.length+ps.length<=100000->
  ∃ kvs,Fl.c7 acc (ps.map fun p=>(prI p,PyData.bool true))=.ok kvs/\kvs.length<=acc.length+ps.length/\∀ x,x∈kvs.map (·.1)↔x∈acc.map (·.1)\/x∈ps.map prI:=by
 induction ps with
 | nil=>intro acc _ _;exact ⟨acc,rfl,Nat.le_refl _,fun x=>⟨.inl,fun q=>q.elim id fun h=>by cases h⟩⟩
 | cons p t ih=>
  intro acc ht hl
  rw[List.length_cons] at hl
  obtain ⟨k1,k2⟩:=pK acc (prI p) (.bool true)
  obtain ⟨kvs,e1,e2,e3⟩:=ih (putM acc (prI p) (.bool true)) (fun x hx=>by
   rcases (k1 x).mp hx with q|q
   ·exact ht x q
   ·rw[q];rfl) (by omega)
  refine ⟨kvs,?_,by rw[List.length_cons];omega,fun x=>?_⟩
  ·have hk:bM (prI p) (acc.map (·.1))=true:=by
    unfold bM
    rw[Bool.or_eq_true,Bool.and_eq_true]
    exact .inl ⟨rfl,List.all_eq_true.mpr ht⟩
   rw[List.map_cons,Fl.c7,if_pos ⟨hk,by omega⟩]
   exact e1
  ·rw[e3,k1,List.map_cons,List.mem_cons]
   exact ⟨fun q=>q.elim (fun q=>q.elim .inl fun e=>.inr (.inl e)) fun e=>.inr (.inr e),fun q=>q.elim (fun e=>.inl (.inl e)) fun q=>q.elim (fun e=>.inl (.inr e)) .inr⟩
theorem z7(ps:List (Int×Int)):Fl.gC (ps.map fun p=>PyData.tuple [prI p,.bool true])=some (ps.map fun p=>(prI p,PyData.bool true)):=by
 induction ps with
 | nil=>rfl
 | cons p t ih=>rw[List.map_cons,Fl.gC,ih];rfl
@[simp] theorem aGJ(i:Nat)(f:Sg->R (List PyData))(ρ:Sg):nS i f ρ=(f ρ).bind fun ds=>match Fl.gC ds with|some kvs=>(Fl.c7 [] kvs).bind fun res=>.ok (.nx (ρ.set i (some (.m res))))|none=>.bad:=id rfl
@[simp] theorem aHZ(f:Sg->R A)(ρ:Sg):pS f ρ=(f ρ).bind fun a=>match a with | .f kvs=>if kvs.length<=16777216 then .ok (kvs.map (·.1)) else .bad|_=>.bad:=id rfl
@[simp] theorem aGK(i:Nat)(f:Sg->R PyData)(ρ:Sg):nU i f ρ=match ρ[i]? with|some (some (.l xs))=>(f ρ).bind fun x=>(match x with | .int k=>if 0<=k/\k < xs.length/\k < 2 ^ 63 then .ok (.nx (ρ.set i (some (.l (xs.eraseIdx k.toNat))))) else .bad|_=>.bad)|_=>.bad:=id rfl
@[simp] theorem aIP(i:Nat)(f g:Sg->R PyData)(ρ:Sg):uZ i f g ρ=match ρ[i]? with|some (some (.l xs))=>(f ρ).bind fun x=>(g ρ).bind fun y=>(match x with | .int k=>if 0<=k/\k < 2 ^ 63/\xs.length < 16777216 then .ok (.nx (ρ.set i (some (.l (xs.take (min k.toNat xs.length)++y::xs.drop (min k.toNat xs.length)))))) else .bad|_=>.bad)|_=>.bad:=id rfl
section
variable{r1 r2:List (List Nat)}{w1 w2:List Str}{sg:Nat}
def inR(r1 r2:List (List Nat))(a b:Int):Bool:=decide (0<=a/\a < r1.length) && decide (0<=b/\b < r2.length)
noncomputable def okP(r1 r2:List (List Nat))(w1 w2:List Str)(P:List PyData):PyData->Bool
 | .tuple [.int a,.int b]=>inR r1 r2 a b && (!wnP w1 w2 (prN a.toNat b.toNat) && (afP r1 r2 (prN a.toNat b.toNat)).all fun x=>decide (x∈P))
 | _=>false
theorem dCh(x:Int)(n:Nat)(ρ:Sg)(f g h:Sg->R PyData)(e1:f ρ=.ok (.int 0))(e2:g ρ=.ok (.int x))(e3:h ρ=.ok (.int (n:Int))):eCh dLe dLt f g h ρ=.ok (.bool (decide (0<=x/\x < n))):=by
 unfold eCh
 by_cases h1:0<=x
 · simp [e1, e2, e3, h1]
 · simp [e1, e2, e3, h1]
theorem aGC(M1:Rdw r1 w1 sg)(M2:Rdw r2 w2 sg)(p:Int×Int):eH [.d (rdW r1 w1),.d (rdW r2 w2),.d (prI p)]=.ok (.d (.bool (inR r1 r2 p.1 p.2))):=by
 have i0:dIx (rdW r1 w1) (.int 0)=.ok (.tuple (r1.map bE)):=rfl
 have j0:dIx (rdW r2 w2) (.int 0)=.ok (.tuple (r2.map bE)):=rfl
 have p0:dIx (prI p) (.int 0)=.ok (.int p.1):=rfl
 have p1:dIx (prI p) (.int 1)=.ok (.int p.2):=rfl
 have l1:dLen (.tuple (r1.map bE))=.ok (.int (r1.length:Int)):=by rw[iU,List.length_map]
 have l2:dLen (.tuple (r2.map bE))=.ok (.int (r2.length:Int)):=by rw[iU,List.length_map]
 unfold eH i7
 have c1:=dCh p.1 r1.length [some (.d (rdW r1 w1)),some (.d (rdW r2 w2)),some (.d (prI p))] (eC (.int 0)) (e2 dIx (rV 2) (eC (.int 0))) (e1 dLen (e2 dIx (rV 0) (eC (.int 0)))) rfl (by simp[p0]) (by simp[i0,l1])
 have c2:=dCh p.2 r2.length [some (.d (rdW r1 w1)),some (.d (rdW r2 w2)),some (.d (prI p))] (eC (.int 0)) (e2 dIx (rV 2) (eC (.int 1))) (e1 dLen (e2 dIx (rV 1) (eC (.int 0)))) rfl (by simp[p1]) (by simp[j0,l2])
 unfold inR
 by_cases h:0<=p.1/\p.1 < r1.length
 · simp [-jD, c1, c2, h]
 · simp [-jD, c1, h]
noncomputable def saB:Sg->R Fw:=(aE (sIf (bOr (d0 (e1 asB (eA (bD 3 eH (aB (vV 0) (aB (vV 1) (aB (vV 4) aL))))))) (d0 (e1 asB (eA (bD 3 eG (aB (vV 0) (aB (vV 1) (aB (vV 4) aL)))))))) (bN (vD (eC (.bool false)))) sNx)
 (sIf (d0 (e1 asB (e1 dAll (eL (dL [none,some 3] (e1 aY (eA (bD 3 dX (aB (vV 0) (aB (vV 1) (aB (vV 4) aL)))))) (stN 0) eM (gB false 1 (eV 0))))))) (bN (vD (eC (.bool false)))) sNx))
theorem xT:g9=(aE (sIf (e1 asB (e2 dNe (eA (bD 1 cO (aB (vV 0) aL))) (eA (bD 1 cO (aB (vV 1) aL))))) (bN (vD (eC (.bool false)))) sNx)
 (aE (nS 3 (dL [none] (e1 aY (rV 2)) (stN 0) eM (cZ (aB (eV 0) (aB (eC (.bool true)) aL)))))
 (aE (sIf (e1 asB (gB true 3 (cZ (aB (eC (.int 0)) (aB (eC (.int 0)) aL))))) (bN (vD (eC (.bool false)))) sNx)
 (aE (i5 3 (eU (nP 3) (stN 4) saB))
 (bN (vD (eC (.bool true)))))))):=id rfl
noncomputable def saρ(r1 r2:List (List Nat))(w1 w2:List Str)(P:PyData)(kvs:List (PyData×PyData))(u:Option A):Sg:=[some (.d (rdW r1 w1)),some (.d (rdW r2 w2)),some (.d P),some (.f kvs),u]
theorem tR{a b:Int}(h:inR r1 r2 a b=true):∃ c d:Nat,a=c/\b=d/\c < r1.length/\d < r2.length:=by
 unfold inR at h
 rw[Bool.and_eq_true,decide_eq_true_iff,decide_eq_true_iff] at h
 exact ⟨a.toNat,b.toNat,by omega,by omega,by omega,by omega⟩
theorem aEZ(M1:Rdw r1 w1 sg)(M2:Rdw r2 w2 sg){P:PyData}{kvs:List (PyData×PyData)}(p:Int×Int)(ht:∀ x∈kvs.map (·.1),f8 x=true) :
  saB (saρ r1 r2 w1 w2 P kvs (some (.d (prI p))))=if okP r1 r2 w1 w2 (kvs.map (·.1)) (prI p)=true then .ok (.nx (saρ r1 r2 w1 w2 P kvs (some (.d (prI p))))) else .ok (.rt (.d (.bool false))):=by
 have ha:=aGC M1 M2 p
 obtain ⟨a,b⟩:=p
 have hok:okP r1 r2 w1 w2 (kvs.map (·.1)) (prI (a,b))=(inR r1 r2 a b && (!wnP w1 w2 (prN a.toNat b.toNat) && (afP r1 r2 (prN a.toNat b.toNat)).all fun x=>decide (x∈kvs.map (·.1)))):=rfl
 rw[hok]
 cases hr:inR r1 r2 a b with
 | false=>
  rw[show inR r1 r2 (a,b).1 (a,b).2=false from hr] at ha
  simp[saB,saρ,ha]
 | true=>
  rw[show inR r1 r2 (a,b).1 (a,b).2=true from hr] at ha
  obtain ⟨c,d,rfl,rfl,hc,hd⟩:=tR hr
  have hs:=aGA M1 M2 hc hd
  have hp:prI ((c:Int),(d:Int))=prN c d:=rfl
  rw[hp] at ha ⊢
  rw[Int.toNat_natCast,Int.toNat_natCast]
  cases hw:wnP w1 w2 (prN c d) with
  | true=>
   rw[hw] at hs
   simp[saB,saρ,ha,hs]
  | false=>
   rw[hw] at hs
   have hf:=aF9 M1 M2 hc hd
   have hm:∀ x∈afP r1 r2 (prN c d),∃ q:Int×Int,x=prI q:=fun x hx=>by
    rw[iZ] at hx
    obtain ⟨q,_,rfl⟩:=List.mem_map.mp hx
    exact ⟨(q.1,q.2),rfl⟩
   have hll:(afP r1 r2 (prN c d)).length<=3:=by
    have:=M1.r.s3
    rw[iZ,List.length_map,List.length_zip,(M1.r.at hc).2.1];omega
   have hcm:=fJ (fs:=stN 0) (fe:=gB false 1 (eV 0)) (ρ0:=[none,some (.f kvs)]) (d:=fun x:PyData=>x) (g:=fun x:PyData=>PyData.bool (decide (x∈kvs.map (·.1)))) (xs:=afP r1 r2 (prN c d)) fun x hx=>⟨_,rfl,by
    obtain ⟨q,rfl⟩:=hm x hx
    have hk:bM (prI q) (kvs.map (·.1))=true:=by
     unfold bM
     rw[Bool.or_eq_true,Bool.and_eq_true]
     exact .inl ⟨rfl,List.all_eq_true.mpr ht⟩
    have hh:cF kvs (prI q)=decide (prI q∈kvs.map (·.1)):=by
     rw[Bool.eq_iff_iff,decide_eq_true_iff];exact iO
    rw[tJ]
    show (R.ok (prI q)).bind _=_
    rw[R.bind_ok]
    show (if bM (prI q) (kvs.map (·.1))=true then R.ok (PyData.bool (if false=true then _ else cF kvs (prI q))) else R.bad)=_
    rw[if_pos hk,if_neg Bool.false_ne_true,hh]⟩
   rw[List.map_id'] at hcm
   have hal:=z0 ((afP r1 r2 (prN c d)).map fun x=>decide (x∈kvs.map (·.1)))
   rw[List.map_map,List.all_map] at hal
   have hal:dAll (.list ((afP r1 r2 (prN c d)).map fun x=>PyData.bool (decide (x∈kvs.map (·.1)))))=.ok (.bool ((afP r1 r2 (prN c d)).all fun x=>decide (x∈kvs.map (·.1)))):=hal
   have hdi:aY (.list (afP r1 r2 (prN c d)))=.ok (afP r1 r2 (prN c d)):=iW (by omega)
   generalize (afP r1 r2 (prN c d)).all (fun x=>decide (x∈kvs.map (·.1)))=B at hal ⊢
   generalize ((afP r1 r2 (prN c d)).map fun x=>PyData.bool (decide (x∈kvs.map (·.1))))=L at hal hcm
   cases B<;>simp[-tJ,saB,saρ,ha,hs,hf,fX,hdi,hcm,hal]
theorem jL{M:Rdw r1 w1 sg}{q:Nat}(hq:q < r1.length):dLen (bE (r1.getD q []))=.ok (.int (sg:Int)):=by
 unfold bE
 rw[iU,List.length_map,(M.r.at hq).2.1]
theorem pU(M1:Rdw r1 w1 sg):cO [.d (rdW r1 w1)]=.ok (.d (.int (sg:Int))):=by
 have i0:dIx (rdW r1 w1) (.int 0)=.ok (.tuple (r1.map bE)):=rfl
 have i1:=dH (ws:=w1.map .str) M1.r (q:=0) M1.r.n1
 have l1:=jL (M:=M1) (q:=0) M1.r.n1
 have i1:dIx (.tuple (r1.map bE)) (.int 0)=.ok (bE (r1.getD 0 [])):=i1
 unfold cO j7
 simp[-List.getD_eq_getElem?_getD,i0,i1,l1]
theorem aGD(M1:Rdw r1 w1 sg)(M2:Rdw r2 w2 sg){ps:List (Int×Int)}(hl:ps.length<=1000) :
  c9 [.d (rdW r1 w1),.d (rdW r2 w2),.d (.list (ps.map prI))]=.ok (.d (.bool (decide (prI (0,0)∈ps.map prI) && (ps.map prI).all (okP r1 r2 w1 w2 (ps.map prI))))):=by
 obtain ⟨kvs,e1,e2,e3⟩:=aCT ps [] (fun x h=>by cases h) (by simp;omega)
 have e3:∀ x,x∈kvs.map (·.1)↔x∈ps.map prI:=fun x=>(e3 x).trans ⟨fun q=>q.elim (fun h=>by cases h) id,.inr⟩
 have e2:kvs.length<=1000:=by simp at e2;omega
 have ht:∀ x∈kvs.map (·.1),f8 x=true:=fun x hx=>by
  obtain ⟨p,_,rfl⟩:=List.mem_map.mp ((e3 x).mp hx);rfl
 have hk:bM (prI (0,0)) (kvs.map (·.1))=true:=by
  unfold bM
  rw[Bool.or_eq_true,Bool.and_eq_true]
  exact .inl ⟨rfl,List.all_eq_true.mpr ht⟩
 have hh:cF kvs (prI (0,0))=decide (prI (0,0)∈ps.map prI):=by
  rw[Bool.eq_iff_iff,decide_eq_true_iff,iO,e3]
 have hoe:∀ x,okP r1 r2 w1 w2 (kvs.map (·.1)) x=okP r1 r2 w1 w2 (ps.map prI) x:=fun x=>by
  have:(fun y=>decide (y∈kvs.map (·.1)))=fun y=>decide (y∈ps.map prI):=funext fun y=>by rw[Bool.eq_iff_iff,decide_eq_true_iff,decide_eq_true_iff,e3]
  unfold okP
  rw[this]
 have hall:(kvs.map (·.1)).all (okP r1 r2 w1 w2 (kvs.map (·.1)))=(ps.map prI).all (okP r1 r2 w1 w2 (ps.map prI)):=by
  rw[Bool.eq_iff_iff,List.all_eq_true,List.all_eq_true]
  exact ⟨fun h x hx=>by rw[<-hoe];exact h x ((e3 x).mpr hx),fun h x hx=>by rw[hoe];exact h x ((e3 x).mp hx)⟩
 have hs1:cO [.d (rdW r1 w1)]=.ok (.d (.int (sg:Int))):=pU M1
 have hs2:cO [.d (rdW r2 w2)]=.ok (.d (.int (sg:Int))):=pU M2
 have hne:dNe (.int (sg:Int)) (.int (sg:Int))=.ok (.bool false):=xF (eZ _)
 have hdi:aY (.list (ps.map prI))=.ok (ps.map prI):=iW (by rw[List.length_map];omega)
 have hc:=fJ (fs:=stN 0) (fe:=cZ (aB (eV 0) (aB (eC (.bool true)) aL))) (ρ0:=[none]) (d:=prI) (g:=fun p=>PyData.tuple [prI p,.bool true]) (xs:=ps) fun p _=>⟨_,rfl,by simp⟩
 have hpo:=z7 ps
 generalize hL:(ps.map fun p=>PyData.tuple [prI p,.bool true])=LL at hc hpo
 have hloop:=lG (fs:=stN 4) (fb:=saB) (good:=okP r1 r2 w1 w2 (kvs.map (·.1))) (J:=fun ρ=>∃ u,ρ=saρ r1 r2 w1 w2 (.list (ps.map prI)) kvs u) (a:=.d (.bool false)) (kvs.map (·.1)) (fun x hx ρ zz0=>by
  obtain ⟨u,e⟩:=zz0
  subst e
  obtain ⟨p,_,rfl⟩:=List.mem_map.mp ((e3 x).mp hx)
  refine ⟨saρ r1 r2 w1 w2 (.list (ps.map prI)) kvs (some (.d (prI p))),rfl,?_⟩
  have:=aEZ M1 M2 (P:=.list (ps.map prI)) p ht
  cases hok:okP r1 r2 w1 w2 (kvs.map (·.1)) (prI p) with
  | true=>rw[hok,if_pos rfl] at this;exact .inl ⟨rfl,_,this,_,rfl⟩
  | false=>rw[hok,if_neg Bool.false_ne_true] at this;exact .inr ⟨rfl,this⟩) (saρ r1 r2 w1 w2 (.list (ps.map prI)) kvs none) ⟨none,rfl⟩
 rw[hall] at hloop
 have hp0:PyData.tuple [.int 0,.int 0]=prI (0,0):=rfl
 unfold c9
 rw[xT]
 cases hz:decide (prI (0,0)∈ps.map prI) with
 | false=>
  rw[hz] at hh
  simp[hs1,hs2,hne,hdi,fX,hc,hpo,e1,hp0,hk,hh]
 | true=>
  rw[hz] at hh
  rcases hloop with ⟨q,ρ',q1,u,rfl⟩|⟨q,q1⟩
  ·rw[q]
   unfold saρ at q1
   simp[hs1,hs2,hne,hdi,fX,hc,hpo,e1,hp0,hk,hh,fzM,e2,Nat.le_trans e2 (show 1000<=16777216 by decide),q1]
  ·rw[q]
   unfold saρ at q1
   simp[hs1,hs2,hne,hdi,fX,hc,hpo,e1,hp0,hk,hh,fzM,e2,Nat.le_trans e2 (show 1000<=16777216 by decide),q1]
noncomputable def duB:Sg->R Fw:=(aE (sIf (bOr (d0 (e1 asB (eCh dLe dLt (eC (.int 0)) (rV 3) (e1 dLen (e2 dIx (rV 0) (eC (.int 0))))))) (bOr (d0 (e1 asB (eCh dLe dLt (eC (.int 0)) (rV 4) (e1 dLen (e2 dIx (rV 1) (eC (.int 0))))))) (e1 asB (e2 dNe (e2 dIx (e2 dIx (rV 0) (eC (.int 1))) (rV 3)) (e2 dIx (e2 dIx (rV 1) (eC (.int 1))) (rV 4)))))) (bN (vD (eC (.bool false)))) sNx)
 (sIf (e1 asB (e2 dIn (eC (.bool false)) (eL (dL [none,some 2] (e2 iR (e2 dIx (e2 dIx (rV 0) (eC (.int 0))) (rV 3)) (e2 dIx (e2 dIx (rV 1) (eC (.int 0))) (rV 4))) (stN 0) eM (e2 dIn (rV 0) (rV 1)))))) (bN (vD (eC (.bool false)))) sNx))
theorem xU:gD=(aE (sIf (bOr (e1 asB (e2 dNe (e1 dLen (e2 dIx (e2 dIx (rV 0) (eC (.int 0))) (eC (.int 0)))) (e1 dLen (e2 dIx (e2 dIx (rV 1) (eC (.int 0))) (eC (.int 0)))))) (e1 asB (e2 dNin (cZ (aB (eC (.int 0)) (aB (eC (.int 0)) aL))) (rV 2)))) (bN (vD (eC (.bool false)))) sNx)
 (aE (eU (e1 aY (eV 2)) (stT [(stN 3),(stN 4)]) duB)
 (bN (vD (eC (.bool true)))))):=id rfl
noncomputable def duρ(r1 r2:List (List Nat))(w1 w2:List Str)(P:List PyData)(u v:Option A):Sg:=[some (.d (rdW r1 w1)),some (.d (rdW r2 w2)),some (.d (.list P)),u,v]
theorem aE0(M1:Rdw r1 w1 sg)(M2:Rdw r2 w2 sg){ps:List (Int×Int)}(a b:Int) :
  duB (duρ r1 r2 w1 w2 (ps.map prI) (some (.d (.int a))) (some (.d (.int b))))=if okP r1 r2 w1 w2 (ps.map prI) (prI (a,b))=true then .ok (.nx (duρ r1 r2 w1 w2 (ps.map prI) (some (.d (.int a))) (some (.d (.int b))))) else .ok (.rt (.d (.bool false))):=by
 have hok:okP r1 r2 w1 w2 (ps.map prI) (prI (a,b))=(inR r1 r2 a b && (!wnP w1 w2 (prN a.toNat b.toNat) && (afP r1 r2 (prN a.toNat b.toNat)).all fun x=>decide (x∈ps.map prI))):=rfl
 rw[hok]
 have i0:dIx (rdW r1 w1) (.int 0)=.ok (.tuple (r1.map bE)):=rfl
 have j0:dIx (rdW r2 w2) (.int 0)=.ok (.tuple (r2.map bE)):=rfl
 have i1:dIx (rdW r1 w1) (.int 1)=.ok (.tuple (w1.map .str)):=rfl
 have j1:dIx (rdW r2 w2) (.int 1)=.ok (.tuple (w2.map .str)):=rfl
 have l1:dLen (.tuple (r1.map bE))=.ok (.int (r1.length:Int)):=by rw[iU,List.length_map]
 have l2:dLen (.tuple (r2.map bE))=.ok (.int (r2.length:Int)):=by rw[iU,List.length_map]
 have c1:=dCh a r1.length (duρ r1 r2 w1 w2 (ps.map prI) (some (.d (.int a))) (some (.d (.int b)))) (eC (.int 0)) (rV 3) (e1 dLen (e2 dIx (rV 0) (eC (.int 0)))) rfl (by simp[duρ]) (by simp[duρ,i0,l1])
 have c2:=dCh b r2.length (duρ r1 r2 w1 w2 (ps.map prI) (some (.d (.int a))) (some (.d (.int b)))) (eC (.int 0)) (rV 4) (e1 dLen (e2 dIx (rV 1) (eC (.int 0)))) rfl (by simp[duρ]) (by simp[duρ,j0,l2])
 cases hr:inR r1 r2 a b with
 | false=>
  unfold inR at hr
  rw[Bool.and_eq_false_iff] at hr
  rcases hr with hr|hr
  ·rw[hr] at c1
   simp[-jD,duB,c1]
  ·rw[hr] at c2
   generalize decide (0<=a/\a < r1.length)=B at c1
   cases B<;>simp[-jD,duB,c1,c2]
 | true=>
  have hr0:=hr
  unfold inR at hr
  rw[Bool.and_eq_true] at hr
  rw[hr.1] at c1
  rw[hr.2] at c2
  obtain ⟨c,d,rfl,rfl,hc,hd⟩:=tR hr0
  rw[Int.toNat_natCast,Int.toNat_natCast]
  obtain ⟨g1,k1⟩:=M1.w hc
  obtain ⟨g2,k2⟩:=M2.w hd
  have hne:dNe (.str (w1.getD c "")) (.str (w2.getD d ""))=.ok (.bool (wnP w1 w2 (prN c d))):=by
   rw[aAY,aET g1 g2]
   by_cases h:w1.getD c ""=w2.getD d ""<;>simp only[h,ne_eq,not_true_eq_false,not_false_eq_true,decide_true,decide_false,Bool.not_true,Bool.not_false]
  have x1:=dH (ws:=w1.map .str) M1.r hc
  have y1:=dH (ws:=w2.map .str) M2.r hd
  have s3:=M1.r.s3
  have la:=(M1.r.at hc).2.1
  have lb:=(M2.r.at hd).2.1
  have d1:aY (bE (r1.getD c []))=.ok ((r1.getD c []).map fun j:Nat=>.int (j:Int)):=iV (by rw[List.length_map];omega)
  have d2:aY (bE (r2.getD d []))=.ok ((r2.getD d []).map fun j:Nat=>.int (j:Int)):=iV (by rw[List.length_map];omega)
  have hz:iR (bE (r1.getD c [])) (bE (r2.getD d []))=.ok (afP r1 r2 (prN c d)):=by
   unfold iR
   rw[d1,d2]
   show R.ok _=R.ok _
   rw[iZ,List.zip_map,List.map_map]
   rfl
  have hm:∀ x∈afP r1 r2 (prN c d),∃ q:Int×Int,x=prI q:=fun x hx=>by
   rw[iZ] at hx
   obtain ⟨q,_,rfl⟩:=List.mem_map.mp hx
   exact ⟨(q.1,q.2),rfl⟩
  have hcm:=fJ (fs:=stN 0) (fe:=e2 dIn (rV 0) (rV 1)) (ρ0:=[none,some (.d (.list (ps.map prI)))]) (d:=fun x:PyData=>x) (g:=fun x:PyData=>PyData.bool (decide (x∈ps.map prI))) (xs:=afP r1 r2 (prN c d)) fun x hx=>⟨_,rfl,by
   obtain ⟨q,rfl⟩:=hm x hx
   have:=aCS q ps
   generalize ps.map prI=P at this ⊢
   simp[this]⟩
  rw[List.map_id'] at hcm
  have hal:=xR ((afP r1 r2 (prN c d)).map fun x=>decide (x∈ps.map prI))
  rw[List.map_map,List.all_map] at hal
  have hal:dIn (.bool false) (.list ((afP r1 r2 (prN c d)).map fun x=>PyData.bool (decide (x∈ps.map prI))))=.ok (.bool (!(afP r1 r2 (prN c d)).all fun x=>decide (x∈ps.map prI))):=hal
  generalize (afP r1 r2 (prN c d)).all (fun x=>decide (x∈ps.map prI))=B at hal ⊢
  generalize ((afP r1 r2 (prN c d)).map fun x=>PyData.bool (decide (x∈ps.map prI)))=L at hal hcm
  generalize ps.map prI=P at c1 c2 hcm ⊢
  unfold duρ at c1 c2 ⊢
  cases hw:wnP w1 w2 (prN c d) with
  | true=>
   rw[hw] at hne
   simp[-List.getD_eq_getElem?_getD,-jD,duB,c1,c2,i1,j1,k1,k2,hne]
  | false=>
   rw[hw] at hne
   cases B<;>simp[-List.getD_eq_getElem?_getD,-jD,duB,c1,c2,i1,j1,k1,k2,hne,i0,j0,x1,y1,hz,fX,hcm,hal]
theorem aGE(M1:Rdw r1 w1 sg)(M2:Rdw r2 w2 sg){ps:List (Int×Int)}(hl:ps.length<=1000) :
  cR [.d (rdW r1 w1),.d (rdW r2 w2),.d (.list (ps.map prI))]=.ok (.d (.bool (decide (prI (0,0)∈ps.map prI) && (ps.map prI).all (okP r1 r2 w1 w2 (ps.map prI))))):=by
 have i0:dIx (rdW r1 w1) (.int 0)=.ok (.tuple (r1.map bE)):=rfl
 have j0:dIx (rdW r2 w2) (.int 0)=.ok (.tuple (r2.map bE)):=rfl
 have i1:dIx (.tuple (r1.map bE)) (.int 0)=.ok (bE (r1.getD 0 [])):=dH (ws:=w1.map .str) M1.r (q:=0) M1.r.n1
 have j1:dIx (.tuple (r2.map bE)) (.int 0)=.ok (bE (r2.getD 0 [])):=dH (ws:=w2.map .str) M2.r (q:=0) M2.r.n1
 have l1:=jL (M:=M1) (q:=0) M1.r.n1
 have l2:=jL (M:=M2) (q:=0) M2.r.n1
 have hne:dNe (.int (sg:Int)) (.int (sg:Int))=.ok (.bool false):=xF (eZ _)
 have hn:=zZ (0,0) ps
 have hn:dNin (.tuple [.int 0,.int 0]) (.list (ps.map prI))=_:=hn
 have hdi:aY (.list (ps.map prI))=.ok (ps.map prI):=iW (by rw[List.length_map];omega)
 have hloop:=lG (fs:=stT [(stN 3),(stN 4)]) (fb:=duB) (good:=okP r1 r2 w1 w2 (ps.map prI)) (J:=fun ρ=>∃ u v,ρ=duρ r1 r2 w1 w2 (ps.map prI) u v) (a:=.d (.bool false)) (ps.map prI) (fun x hx ρ zz0=>by
  obtain ⟨u,v,e⟩:=zz0
  subst e
  obtain ⟨⟨a,b⟩,_,rfl⟩:=List.mem_map.mp hx
  refine ⟨duρ r1 r2 w1 w2 (ps.map prI) (some (.d (.int a))) (some (.d (.int b))),rfl,?_⟩
  have:=aE0 M1 M2 (ps:=ps) a b
  cases hok:okP r1 r2 w1 w2 (ps.map prI) (prI (a,b)) with
  | true=>rw[hok,if_pos rfl] at this;exact .inl ⟨rfl,_,this,_,_,rfl⟩
  | false=>rw[hok,if_neg Bool.false_ne_true] at this;exact .inr ⟨rfl,this⟩) (duρ r1 r2 w1 w2 (ps.map prI) none none) ⟨none,none,rfl⟩
 unfold cR
 rw[xU]
 generalize hP:ps.map prI=P at *
 cases hz:decide (prI (0,0)∈P) with
 | false=>
  rw[hz] at hn
  simp[-List.getD_eq_getElem?_getD,i0,j0,i1,j1,l1,l2,hne,hn]
 | true=>
  rw[hz] at hn
  rcases hloop with ⟨q,ρ',q1,u,v,rfl⟩|⟨q,q1⟩
  ·rw[q]
   unfold duρ at q1
   simp[-List.getD_eq_getElem?_getD,i0,j0,i1,j1,l1,l2,hne,hn,hdi,q1]
  ·rw[q]
   unfold duρ at q1
   simp[-List.getD_eq_getElem?_getD,i0,j0,i1,j1,l1,l2,hne,hn,hdi,q1]
end
end Mc
namespace Mc
open PySem L2 PyProof.Rows Fl
section
variable{r1 r2:List (List Nat)}{w1 w2:List Str}{sg sg2:Nat}
theorem aE1(M1:Rdw r1 w1 sg)(M2:Rdw r2 w2 sg2)(h:sg≠sg2)(P:PyData):c9 [.d (rdW r1 w1),.d (rdW r2 w2),.d P]=.ok (.d (.bool false)):=by
 have hs1:cO [.d (rdW r1 w1)]=.ok (.d (.int (sg:Int))):=pU M1
 have hs2:cO [.d (rdW r2 w2)]=.ok (.d (.int (sg2:Int))):=pU M2
 have hne:dNe (.int (sg:Int)) (.int (sg2:Int))=.ok (.bool true):=by rw[w9,decide_eq_false (by omega)];rfl
 unfold c9
 rw[xT]
 simp[hs1,hs2,hne]
theorem aE2(M1:Rdw r1 w1 sg)(M2:Rdw r2 w2 sg2)(h:sg≠sg2)(P:PyData):cR [.d (rdW r1 w1),.d (rdW r2 w2),.d P]=.ok (.d (.bool false)):=by
 have i0:dIx (rdW r1 w1) (.int 0)=.ok (.tuple (r1.map bE)):=rfl
 have j0:dIx (rdW r2 w2) (.int 0)=.ok (.tuple (r2.map bE)):=rfl
 have i1:dIx (.tuple (r1.map bE)) (.int 0)=.ok (bE (r1.getD 0 [])):=dH (ws:=w1.map .str) M1.r (q:=0) M1.r.n1
 have j1:dIx (.tuple (r2.map bE)) (.int 0)=.ok (bE (r2.getD 0 [])):=dH (ws:=w2.map .str) M2.r (q:=0) M2.r.n1
 have l1:=jL (M:=M1) (q:=0) M1.r.n1
 have l2:=jL (M:=M2) (q:=0) M2.r.n1
 have hne:dNe (.int (sg:Int)) (.int (sg2:Int))=.ok (.bool true):=by rw[w9,decide_eq_false (by omega)];rfl
 unfold cR
 rw[xU]
 simp[-List.getD_eq_getElem?_getD,i0,j0,i1,j1,l1,l2,hne]
theorem nV(M1:Rdw r1 w1 sg)(M2:Rdw r2 w2 sg2){ps:List (Int×Int)}(hl:ps.length<=1000):b8 [.d (rdW r1 w1),.d (rdW r2 w2),.d (.list (ps.map prI))]=.ok (.d (.bool true)):=by
 obtain ⟨b,h1,h2⟩:∃ b,c9 [.d (rdW r1 w1),.d (rdW r2 w2),.d (.list (ps.map prI))]=.ok (.d (.bool b))/\cR [.d (rdW r1 w1),.d (rdW r2 w2),.d (.list (ps.map prI))]=.ok (.d (.bool b)):=by
  by_cases h:sg=sg2
  · subst h; exact ⟨_, aGD M1 M2 hl, aGE M1 M2 hl⟩
  · exact ⟨_, aE1 M1 M2 h _, aE2 M1 M2 h _⟩
 have hb:dEq (.bool b) (.bool b)=.ok (.bool true):=by cases b<;>exact xE rfl
 have hr:dEq (.list (ps.map prI)) (.list (ps.map prI))=.ok (.bool true):=xE (xP ps).sh
 have ht:fY "bool" "bool"=true:=by decide
 generalize ps.map prI=P at *
 unfold b8 fZ
 simp[fz,h1,h2,hb,hr,ht]
def mO(n m:Nat):List Nat:=0::(((List.range (n - 1)).map (· + 1)).drop m++((List.range (n - 1)).map (· + 1)).take m)
theorem z8{n m:Nat}(h:1<=n):(mO n m).length=n:=by
 unfold mO
 rw[List.length_cons,List.length_append,List.length_drop,List.length_take,List.length_map,List.length_range]
 omega
theorem z9{n m:Nat}(h:1<=n){q:Nat}:q∈mO n m↔q < n:=by
 unfold mO
 rw[List.mem_cons,List.mem_append]
 constructor
 ·rintro (e|e|e)
  ·omega
  ·obtain ⟨j,hj,rfl⟩:=List.mem_map.mp (List.mem_of_mem_drop e)
   rw[List.mem_range] at hj;omega
  ·obtain ⟨j,hj,rfl⟩:=List.mem_map.mp (List.mem_of_mem_take e)
   rw[List.mem_range] at hj;omega
 ·intro hq
  by_cases q0:q=0
  ·exact .inl q0
  ·right
   have hm:q∈(List.range (n - 1)).map (· + 1):=List.mem_map.mpr ⟨q - 1,List.mem_range.mpr (by omega),by omega⟩
   rw[<-List.take_append_drop m ((List.range (n - 1)).map (· + 1)),List.mem_append] at hm
   exact hm.symm
theorem xV{kvs:List (PyData×PyData)}{k v k':PyData}:cI (putM kvs k v) k'=if k'=k then some v else cI kvs k':=by
 cases h:cF kvs k with
 | false=>exact zN h
 | true=>
  unfold putM
  rw[if_pos h]
  unfold cF at h
  unfold cI at *
  induction kvs with
  | nil=>cases h
  | cons p t ih=>
   rw[List.map_cons,List.find?_cons,List.find?_cons]
   by_cases e:p.1=k
   ·rw[if_pos e]
    by_cases e':k'=k
    ·subst e'
     rw[if_pos rfl,show decide (p.1=k')=true from decide_eq_true e];rfl
    ·rw[if_neg e',show decide (p.1=k')=false from decide_eq_false fun z=>e' (z.symm.trans e)]
     simp only
     by_cases hh:(Option.map (fun x=>x.snd) (List.find? (fun p=>decide (p.fst=k)) t)).isSome=true
     ·rw[ih hh,if_neg e']
     ·have:∀ q∈t,¬ q.1=k:=fun q hq z=>by
       apply hh
       rw[Option.isSome_map,List.find?_isSome]
       exact ⟨q,hq,decide_eq_true z⟩
      rw[show t.map (fun p=>if p.1=k then (p.1,v) else p)=t from by
       rw[List.map_congr_left (g:=id) fun q hq=>by rw[if_neg (this q hq)];rfl,List.map_id]]
   ·rw[if_neg e]
    rw[List.find?_cons,show decide (p.1=k)=false from decide_eq_false e] at h
    simp only at h
    by_cases e2:p.1=k'
    ·rw[show decide (p.1=k')=true from decide_eq_true e2]
     rw[if_neg fun z=>e (e2.trans z)]
    ·rw[show decide (p.1=k')=false from decide_eq_false e2]
     simp only
     exact ih h
def iD(q:Nat):PyData:=.int (q:Int)
noncomputable def pl(kvs:List (PyData×PyData))(q:Nat):Nat:=match cI kvs (.int (q:Int)) with
 | some (.int k)=>k.toNat
 | _=>0
noncomputable def tuρ(rows:List (List Nat))(ws:List Str)(c:Int)(O:List PyData)(kvs:List (PyData×PyData))(u v:Option A):Sg:=[some (.d (rdW rows ws)),some (.d (.int c)),some (.d (.tuple (rows.map bE))),some (.d (.tuple (ws.map .str))),some (.d (.list O)),some (.m kvs),u,v,none]
theorem aE3:fC=(aE (mI (stT [(stN 2),(stN 3)]) (eV 0))
 (aE (cB 4 (e2 rF (eC (.int 1)) (e1 dLen (rV 2))))
 (aE (bI 1 (vD (e2 dMod (rV 1) (e2 (d2 gZ) (eC (.int 1)) (e1 dLen (rV 4))))))
 (aE (cB 4 (e2 eN (eL (e2 eN (eL (dM (aB (eC (.int 0)) aL))) (eSl dSl (rV 4) (oSo (rV 1)) oNo))) (eSl dSl (rV 4) oNo (oSo (rV 1)))))
 (aE (nL 5)
 (aE (sFz 4 (eU (e1 j5 (eV 4)) (stT [(stN 6),(stN 7)]) (iB 5 (eV 7) (eV 6))))
 (aE (cB 8 (dL [none,some 2,some 5] (e1 aY (rV 4)) (stN 0) eM (e1 dTup (eL (dL [none,some 2] (e1 aY (e2 dIx (rV 1) (rV 0))) (stN 0) eM (gJ 1 (eV 0)))))))
 (bN (vD (cZ (aB (e1 dTup (rV 8)) (aB (e1 dTup (eL (dL [none,some 3] (e1 aY (rV 4)) (stN 0) eM (e2 dIx (rV 1) (rV 0))))) aL)))))))))))):=id rfl
theorem pV{xs ys:List PyData}(h:xs.length+ys.length<=16777216):eN (.list xs) (.list ys)=.ok (xs++ys):=if_pos (by rw[cD];exact h)
theorem aAZ{kvs:List (PyData×PyData)}(h:∀ x∈kvs.map (·.1),jR x=true)(i:Int):bM (.int i) (kvs.map (·.1))=true:=by
 unfold bM
 rw[Bool.or_eq_true,Bool.and_eq_true,Bool.and_eq_true]
 exact .inr ⟨rfl,List.all_eq_true.mpr h⟩
theorem aGF(M:Rdw r1 w1 sg)(cut:Int):∃ r2 w2,c8 [.d (rdW r1 w1),.d (.int cut)]=.ok (.d (rdW r2 w2))/\Rdw r2 w2 sg/\r2.length=r1.length:=by
 have n1:=M.r.n1
 have n2:=M.r.n2
 obtain ⟨n,hn⟩:∃ n,r1.length=n:=⟨_,rfl⟩
 rw[hn] at n1 n2
 have hr2:rF (.int 1) (.int (n:Int))=.ok (((List.range (n - 1)).map (· + 1)).map iD):=by
  show (if (0:Int)<=1/\(1:Int)<=n/\(n:Int)<=1000000 then R.ok _ else R.bad)=_
  rw[if_pos (by omega),show ((n:Int) - 1).toNat=n - 1 by omega,List.map_map]
  congr 1
  refine List.map_congr_left fun i _=>?_
  show PyData.int _=PyData.int _
  congr 1
  show (1:Int)+(i:Int)=((i+1:Nat):Int)
  omega
 have hlen:dLen (.tuple (r1.map bE))=.ok (.int (n:Int)):=by rw[iU,List.length_map,hn]
 have hl2:dLen (.list (((List.range (n - 1)).map (· + 1)).map iD))=.ok (.int ((n - 1:Nat):Int)):=by rw[iT];simp
 obtain ⟨m,hm,hml⟩:∃ m:Nat,dMod (.int cut) (.int (gZ 1 ((n - 1:Nat):Int)))=.ok (.int (m:Int))/\m<=n - 1:=by
  have hp:0 < gZ 1 ((n - 1:Nat):Int):=by unfold gZ;split<;>omega
  have h0:=Int.emod_nonneg cut (show gZ 1 ((n - 1:Nat):Int)≠0 by omega)
  have h1:=Int.emod_lt_of_pos cut hp
  refine ⟨(cut % gZ 1 ((n - 1:Nat):Int)).toNat,by rw[cH hp,Int.toNat_of_nonneg h0],?_⟩
  by_cases h2:((n - 1:Nat):Int) > 1
  ·rw[show gZ 1 ((n - 1:Nat):Int)=((n - 1:Nat):Int) from if_pos h2] at h0 h1 ⊢;omega
  ·rw[show gZ 1 ((n - 1:Nat):Int)=1 from if_neg h2] at h0 h1 ⊢;omega
 have hmx:Fl.d2 gZ (.int 1) (.int ((n - 1:Nat):Int))=.ok (.int (gZ 1 ((n - 1:Nat):Int))):=rfl
 have hA:eW (((List.range (n - 1)).map (· + 1)).map iD) (some (m:Int)) none=(((List.range (n - 1)).map (· + 1)).drop m).map iD:=by
  unfold eW
  rw[HT.lL,HT.jO,List.length_map,List.length_map,List.length_range,Nat.min_eq_left hml,List.take_of_length_le (by simp),List.map_drop]
 have hB:eW (((List.range (n - 1)).map (· + 1)).map iD) none (some (m:Int))=(((List.range (n - 1)).map (· + 1)).take m).map iD:=by
  unfold eW
  rw[HT.lL,HT.jO,List.length_map,List.length_map,List.length_range,Nat.min_eq_left hml,List.drop_zero,Nat.sub_zero,List.map_take]
 have c1:eN (.list [.int 0]) (.list ((((List.range (n - 1)).map (· + 1)).drop m).map iD))=.ok (.int 0::(((List.range (n - 1)).map (· + 1)).drop m).map iD):=pV (by simp;omega)
 have c2:eN (.list (.int 0::(((List.range (n - 1)).map (· + 1)).drop m).map iD)) (.list ((((List.range (n - 1)).map (· + 1)).take m).map iD))=.ok ((mO n m).map iD):=by
  rw[pV (by simp;omega)]
  unfold mO
  rw[List.map_cons,List.map_append];rfl
 have ol:=z8 (m:=m) n1
 have om:=fun q=>z9 (m:=m) n1 (q:=q)
 generalize mO n m=O at *
 have hnu:j5 (.list (O.map iD))=.ok ((O.zipIdx).map fun p=>PyData.tuple [.int (p.2:Int),.int (p.1:Int)]):=by
  rw[zI (iW (by rw[List.length_map];omega)),List.zipIdx_map,List.map_map]
  rfl
 obtain ⟨ρ',q1,kvs,u,v,rfl,kv,kl,kg⟩:=j9 (fs:=stT [(stN 6),(stN 7)]) (fb:=iB 5 (eV 7) (eV 6)) (d:=fun p:Nat×Nat=>PyData.tuple [.int (p.2:Int),.int (p.1:Int)]) (xs:=O.zipIdx) (ρ:=tuρ r1 w1 (m:Int) (O.map iD) [] none none)
  (fun i ρ=>∃ kvs u v,ρ=tuρ r1 w1 (m:Int) (O.map iD) kvs u v/\(∀ x∈kvs.map (fun p:PyData×PyData=>p.1),jR x=true)/\kvs.length<=i/\∀ q∈O.take i,∃ k,k < n/\cI kvs (.int (q:Int))=some (.int (k:Int)))
  ⟨[],none,none,rfl,fun x h=>(by cases h),Nat.le_refl _,fun q h=>(by cases h)⟩
  (fun i p ρ hi ⟨kvs,u,v,e,kv,kl,kg⟩=>by
  subst e
  obtain ⟨q,j⟩:=p
  rw[List.getElem?_zipIdx] at hi
  obtain ⟨q',hq',e⟩:=Option.map_eq_some_iff.mp hi
  injection e with e1 e2
  subst e1
  have e2:i=j:=by omega
  subst e2
  have hil:i < O.length:=(List.getElem?_eq_some_iff.mp hq').1
  obtain ⟨k1,k2⟩:=pK kvs (.int (q':Int)) (.int (i:Int))
  refine ⟨tuρ r1 w1 (m:Int) (O.map iD) kvs (some (.d (.int (i:Int)))) (some (.d (.int (q':Int)))),tuρ r1 w1 (m:Int) (O.map iD) (putM kvs (.int (q':Int)) (.int (i:Int))) (some (.d (.int (i:Int)))) (some (.d (.int (q':Int)))),rfl,.inl ?_,_,_,_,rfl,fun x hx=>?_,by omega,fun y hy=>?_⟩
  ·have hk:=aAZ kv (q':Int)
   simp[tuρ,hk,Nat.le_trans kl (show i<=16777216 by omega)]
  ·rcases (k1 x).mp hx with z|z
   ·exact kv x z
   ·rw[z];rfl
  ·rw[xV]
   split
   ·exact ⟨i,by omega,rfl⟩
   ·rename_i hne
    rw[List.take_add_one,hq',List.mem_append] at hy
    rcases hy with hy|hy
    · exact kg y hy
    · exact absurd (by rw [List.mem_singleton.mp hy]) hne)
 rw[List.length_zipIdx,List.take_length] at kg
 have hkl:kvs.length<=1000:=by rw[List.length_zipIdx] at kl;omega
 have hpl:∀ q,q < n->cI kvs (.int (q:Int))=some (.int (pl kvs q:Int))/\pl kvs q < n:=fun q hq=>by
  obtain ⟨k,hk,e⟩:=kg q ((om q).mpr hq)
  have:pl kvs q=k:=by unfold pl;rw[e];exact Int.toNat_natCast _
  rw[this];exact ⟨e,hk⟩
 have s3:=M.r.s3
 have hin:∀ q,q < n->compL (stN 0) eM (gJ 1 (eV 0)) [none,some (.m kvs)] ((r1.getD q []).map iD)=.ok (((r1.getD q []).map (pl kvs)).map iD):=fun q hq=>by
  rw[List.map_map]
  refine fJ fun j hj=>⟨_,rfl,?_⟩
  have hj':=(M.r.at (hn▸hq)).2.2 j hj
  have hk:=aAZ kv (j:Int)
  have hg:=(hpl j (by omega)).1
  simp[iD,hk,hg]
 have hou:=fJ (fs:=stN 0) (fe:=e1 dTup (eL (dL [none,some 2] (e1 aY (e2 dIx (rV 1) (rV 0))) (stN 0) eM (gJ 1 (eV 0))))) (ρ0:=[none,some (.d (.tuple (r1.map bE))),some (.m kvs)]) (d:=iD) (g:=fun q=>bE ((r1.getD q []).map (pl kvs))) (xs:=O) fun q hq=>⟨_,rfl,by
  have hq':=(om q).mp hq
  have i1:=dH (ws:=w1.map .str) M.r (hn▸hq':q < r1.length)
  have hd:aY (bE (r1.getD q []))=.ok ((r1.getD q []).map iD):=iV (by rw[List.length_map,(M.r.at (hn▸hq')).2.1];omega)
  have hc:=hin q hq'
  have hz:PyData.tuple (((r1.getD q []).map (pl kvs)).map iD)=bE ((r1.getD q []).map (pl kvs)):=rfl
  have hi:iD q=.int (q:Int):=rfl
  generalize (r1.getD q []).map iD=X1 at hd hc
  generalize ((r1.getD q []).map (pl kvs)).map iD=X2 at hc hz
  simp[-List.getD_eq_getElem?_getD,hi,i1,hd,fX,hc,hz]⟩
 have hwo:=fJ (fs:=stN 0) (fe:=e2 dIx (rV 1) (rV 0)) (ρ0:=[none,some (.d (.tuple (w1.map .str)))]) (d:=iD) (g:=fun q=>PyData.str (w1.getD q "")) (xs:=O) fun q hq=>⟨_,rfl,by
  have:=(M.w (hn▸(om q).mp hq:q < r1.length)).2
  have hi:iD q=.int (q:Int):=rfl
  simp[-List.getD_eq_getElem?_getD,hi,this]⟩
 have hdi:aY (.list (O.map iD))=.ok (O.map iD):=iW (by rw[List.length_map];omega)
 refine ⟨O.map fun q=>(r1.getD q []).map (pl kvs),O.map fun q=>w1.getD q "",?_,⟨⟨by rw[List.length_map];omega,by rw[List.length_map];omega,M.r.s1,M.r.s3,fun r hr=>?_⟩,by rw[List.length_map,List.length_map],fun w hw=>?_⟩,by rw[List.length_map,ol,hn]⟩
 ·have hres:rdW (O.map fun q=>(r1.getD q []).map (pl kvs)) (O.map fun q=>w1.getD q "")=.tuple [.tuple (O.map fun q=>bE ((r1.getD q []).map (pl kvs))),.tuple (O.map fun q=>PyData.str (w1.getD q ""))]:=by
   unfold rdW rdD
   rw[List.map_map,List.map_map];rfl
  rw[hres]
  have hun:rdW r1 w1=.tuple [.tuple (r1.map bE),.tuple (w1.map .str)]:=rfl
  unfold tuρ at q1
  rw[hun] at q1 ⊢
  generalize (O.map fun q=>bE ((r1.getD q []).map (pl kvs)))=Y1 at hou ⊢
  generalize (O.map fun q=>PyData.str (w1.getD q ""))=Y2 at hwo ⊢
  generalize O.map iD=OD at *
  generalize (List.range (n - 1)).map (· + 1)=RR at *
  generalize O.zipIdx.map (fun p:Nat×Nat=>PyData.tuple [.int (p.2:Int),.int (p.1:Int)])=ZZ at hnu q1
  unfold c8
  rw[aE3]
  simp[-List.map_map,-List.map_drop,-List.map_take,hlen,hr2,hl2,hmx,hm,aAW,hA,hB,c1,c2,fz,hnu,q1,hdi,fX,hou,hwo]
 ·obtain ⟨q,hq,rfl⟩:=List.mem_map.mp hr
  have hq':=(om q).mp hq
  refine ⟨by rw[List.length_map];exact (M.r.at (hn▸hq')).2.1,fun j hj=>?_⟩
  obtain ⟨y,hy,rfl⟩:=List.mem_map.mp hj
  have:=(M.r.at (hn▸hq')).2.2 y hy
  rw[List.length_map,ol]
  exact (hpl y (by omega)).2
 ·obtain ⟨q,hq,rfl⟩:=List.mem_map.mp hw
  exact (M.w (hn▸(om q).mp hq:q < r1.length)).1
end
end Mc
namespace Mc
open PySem L2 PyProof.Rows Fl
@[simp] theorem aH0(i:Nat)(f g:Sg->R PyData)(ρ:Sg):oC i f g ρ=(g ρ).bind fun x=>match ρ[i]? with
 | some (some (.l xs))=>(f ρ).bind fun k=>(match k with
  | .int k=>(match ixN xs.length k with
   | some j=>.ok (.nx (ρ.set i (some (.l (xs.set j x)))))
   | none=>.bad)
  | _=>.bad)
 | _=>.bad:=id rfl
theorem pL{α β:Type}(f:α->β):∀ (l:List α) (k:Nat),(l.map f).eraseIdx k=(l.eraseIdx k).map f
 | [],_=>rfl
 | _::_,0=>rfl
 | x::t,k+1=>by rw[List.map_cons,List.eraseIdx_cons_succ,List.eraseIdx_cons_succ,List.map_cons,pL f t k]
theorem aH1:dPow (.int 10) (.int 9)=.ok (.int 1000000000):=by
 show (if (0:Int)<=9/\(9:Int)<=1000000/\(10:Int).natAbs < 2 ^ 64 then R.ok (PyData.int ((10:Int) ^ (9:Int).toNat)) else R.bad)=_
 rw[if_pos (by decide)]
 rfl
theorem aGG{ps:List (Int×Int)}(h1:1<=ps.length)(h2:ps.length<=900)(how c:Int)(a0:0<=how)(a8:how < 8):∃ qs:List (Int×Int),bF [.d (.list (ps.map prI)),.d (.int how),.d (.int c)]=.ok (.d (.list (qs.map prI)))/\qs.length<=1000:=by
 have hl:dLen (.list (ps.map prI))=.ok (.int (ps.length:Int)):=by rw[iT,List.length_map]
 obtain ⟨k,hk,hkl⟩:∃ k:Nat,c % (ps.length:Int)=k/\k < ps.length:=by
  have:=Int.emod_nonneg c (show (ps.length:Int)≠0 by omega)
  have:=Int.emod_lt_of_pos c (show 0 < (ps.length:Int) by omega)
  exact ⟨(c % (ps.length:Int)).toNat,by omega,by omega⟩
 have hm:dMod (.int c) (.int (ps.length:Int))=.ok (.int (k:Int)):=by rw[cH (by omega),hk]
 have m6:∀ x:Int,dMod (.int x) (.int 6)=.ok (.int (x % 6)):=fun x=>cH (by omega)
 have m4:∀ x:Int,dMod (.int x) (.int 4)=.ok (.int (x % 4)):=fun x=>cH (by omega)
 have m9:∀ x:Int,dMod (.int x) (.int 1000000000)=.ok (.int (x % 1000000000)):=fun x=>cH (by omega)
 have d8:dDiv (.int c) (.int 8)=.ok (.int (c / 8)):=dP (by omega) (by omega)
 have d64:dDiv (.int c) (.int 64)=.ok (.int (c / 64)):=dP (by omega) (by omega)
 obtain ⟨p,hp⟩:∃ p,ps[k]? = some p:=⟨_,List.getElem?_eq_getElem hkl⟩
 have hix:dIx (.list (ps.map prI)) (.int (k:Int))=.ok (prI p):=nQ (eF (by rw[List.getElem?_map,hp];rfl))
 have p0:dIx (prI p) (.int 0)=.ok (.int p.1):=rfl
 have p1:dIx (prI p) (.int 1)=.ok (.int p.2):=rfl
 have hixN:ixN (ps.map prI).length (k:Int)=some k:=by
  rw[List.length_map]
  unfold ixN
  simp
  omega
 have hlm:(ps.map prI).length=ps.length:=List.length_map _
 have dd:=lA
 rcases (show how=0\/how=1\/how=2\/how=3\/how=4\/how=5\/how=6\/how=7 by omega) with rfl|rfl|rfl|rfl|rfl|rfl|rfl|rfl
 ·refine ⟨ps.eraseIdx k,?_,Nat.le_trans (kN _ _) (by omega)⟩
  have he:(ps.eraseIdx k).map prI=(ps.map prI).eraseIdx k:=(pL prI ps k).symm
  rw[he]
  generalize ps.map prI=P at *
  unfold bF bJ
  have hc:(k:Int) < (P.length:Int)/\(k:Int) < 9223372036854775808/\k < P.length:=by omega
  simp[hl,hm,dd,hc.1,hc.2.1,hc.2.2,fz]
 ·refine ⟨ps++[(c / 8 % 6,c / 64 % 6)],?_,by rw[List.length_append];simp;omega⟩
  rw[List.map_append]
  have hx:[((c / 8 % 6,c / 64 % 6):Int×Int)].map prI=[.tuple [.int (c / 8 % 6),.int (c / 64 % 6)]]:=rfl
  rw[hx]
  have hq:(ps.map prI).length < 16777216:=by omega
  generalize ps.map prI=P at *
  unfold bF bJ
  simp[hl,hm,dd,d8,d64,m6,hq,fz]
 ·refine ⟨ps.set k (p.1,6+c / 8 % 1000000000),?_,by rw[List.length_set];omega⟩
  rw[List.map_set]
  have hx:prI (p.1,6+c / 8 % 1000000000)=.tuple [.int p.1,.int (6+c / 8 % 1000000000)]:=rfl
  rw[hx]
  generalize ps.map prI=P at *
  unfold bF bJ
  simp[hl,hm,dd,d8,m9,aH1,hix,p0,hixN,fz]
 ·refine ⟨ps.set k (-1 - c / 8 % 6,p.2),?_,by rw[List.length_set];omega⟩
  rw[List.map_set]
  have hx:prI (-1 - c / 8 % 6,p.2)=.tuple [.int (-1 - c / 8 % 6),.int p.2]:=rfl
  rw[hx]
  generalize ps.map prI=P at *
  unfold bF bJ
  simp[hl,hm,dd,d8,m6,hix,p1,hixN,fz]
 ·refine ⟨ps.take k++(p.1,-1 - c / 8 % 6)::ps.drop k,?_,by rw[List.length_append,List.length_cons,List.length_take,List.length_drop];omega⟩
  rw[List.map_append,List.map_cons,List.map_take,List.map_drop]
  have hx:prI (p.1,-1 - c / 8 % 6)=.tuple [.int p.1,.int (-1 - c / 8 % 6)]:=rfl
  rw[hx]
  generalize ps.map prI=P at *
  have hc:(k:Int) < 9223372036854775808/\P.length < 16777216:=by omega
  have hmin:min k P.length=k:=by omega
  unfold bF bJ
  simp[hl,hm,dd,d8,m6,hix,p0,hc.1,hc.2,hmin,fz]
 ·by_cases h4:c / 8 % 4=1
  ·refine ⟨[],?_,Nat.zero_le _⟩
   generalize ps.map prI=P at *
   unfold bF bJ
   simp[hl,hm,dd,d8,m4,h4,fz]
  ·refine ⟨ps,?_,by omega⟩
   generalize ps.map prI=P at *
   unfold bF bJ
   simp[hl,hm,dd,d8,m4,h4,fz]
 ·refine ⟨ps,?_,by omega⟩
  generalize ps.map prI=P at *
  unfold bF bJ
  simp[hl,hm,dd,fz]
 ·refine ⟨ps,?_,by omega⟩
  generalize ps.map prI=P at *
  unfold bF bJ
  simp[hl,hm,dd,fz]
end Mc
namespace Mc
open PySem L2 PyProof.Rows Fl
theorem aH2:bQ=g8:=id rfl
theorem aH3:eE=fA:=id rfl
noncomputable def lwV:Sg->R Fw:=(aE (bI 8 (vD (e2 dMod (eA (bD 2 bG (aB (vV 0) (aB (vD (eC (.int 3))) aL)))) (eC (.int 2147483647)))))
 (aE (sIf (e1 asB (e2 dEq (e2 dMod (e2 dDiv (rV 1) (eC (.int 54))) (eC (.int 8))) (eC (.int 2)))) (sFz 6 (bN (bD 3 b8 (aB (vV 4) (aB (bD 5 bQ (aB (vV 0) (aB (vD (eC (.int 10))) (aB (vV 3) (aB (vD (e2 bP (eC (.int 1)) (e2 dMod (rV 2) (eC (.int 3))))) (aB (vD (eC (.int 1))) aL)))))) (aB (vV 6) aL)))))) sNx)
 (aE (sIf (e1 asB (e2 dEq (e2 dMod (rV 8) (eC (.int 8))) (eC (.int 6)))) (aE (cB 9 (e1 dLst (e2 dIx (rV 5) (eC (.int 1)))))
 (aE (oC 9 (e2 dMod (e2 dDiv (rV 8) (eC (.int 8))) (e1 dLen (rV 9))) (e2 dIx (eL (dM (aB (eC (.str "by")) (aB (eC (.str "out")) (aB (eC (.str "ever")) aL))))) (e2 dMod (e2 dDiv (rV 8) (eC (.int 64))) (eC (.int 3)))))
 (bI 5 (vD (cZ (aB (e2 dIx (rV 5) (eC (.int 0))) (aB (e1 dTup (rV 9)) aL))))))) sNx)
 (sFz 6 (bN (bD 3 b8 (aB (vV 4) (aB (vV 5) (aB (bD 3 bF (aB (vV 6) (aB (vD (e2 dMod (rV 8) (eC (.int 8)))) (aB (vD (e2 dDiv (rV 8) (eC (.int 8)))) aL)))) aL)))))))))
noncomputable def lwU:Sg->R Fw:=(aE (cB 6 (pS (bD 3 eE (aB (vV 4) (aB (vV 5) (aB (vD (cZ (aB (eC (.int 0)) (aB (eC (.int 0)) aL)))) aL))))))
 (aE (bI 7 (vD (e2 dMod (eA (bD 2 bG (aB (vV 0) (aB (vD (eC (.int 2))) aL)))) (e1 dLen (rV 6)))))
 (aE (cB 6 (e2 eN (eL (e2 eN (eSl dSl (rV 6) (oSo (rV 7)) oNo) (eSl dSl (rV 6) oNo (oSo (rV 7))))) (eSl dSl (rV 6) oNo (oSo (e2 dMod (e2 dDiv (eA (bD 2 bG (aB (vV 0) (aB (vD (eC (.int 2))) aL)))) (eC (.int 64))) (e2 bP (e1 dLen (rV 6)) (eC (.int 1))))))))
 (aE (sFz 6 (sIf (d0 (e1 asB (eA (bD 3 b8 (aB (vV 4) (aB (vV 5) (aB (vV 6) aL))))))) (bN (vD (eC (.bool false)))) sNx))
 lwV))))
theorem aE4:u0=(aE (bI 1 (bD 2 bG (aB (vV 0) (aB (vD (eC (.int 0))) aL))))
 (aE (bI 2 (vD (e2 bP (eC (.int 1)) (e2 dMod (rV 1) (eC (.int 3))))))
 (aE (bI 3 (vD (e2 bP (eC (.int 1)) (e2 dMod (e2 dDiv (rV 1) (eC (.int 3))) (eC (.int 6))))))
 (aE (bI 4 (bD 5 bQ (aB (vV 0) (aB (vD (eC (.int 4))) (aB (vV 3) (aB (vV 2) (aB (vD (e2 bP (eC (.int 1)) (e2 dMod (e2 dDiv (rV 1) (eC (.int 18))) (eC (.int 3))))) aL)))))))
 (aE (bI 5 (bD 2 c8 (aB (vV 4) (aB (bD 2 bG (aB (vV 0) (aB (vD (eC (.int 1))) aL))) aL))))
 (aE (sIf (e1 asB (e2 dEq (e2 dMod (e2 dDiv (rV 1) (eC (.int 54))) (eC (.int 4))) (eC (.int 1)))) (bI 5 (bD 5 bQ (aB (vV 0) (aB (vD (e2 bP (eC (.int 4)) (rV 3))) (aB (vD (e2 bP (eC (.int 1)) (e2 dMod (eA (bD 2 bG (aB (vV 0) (aB (vD (eC (.int 1))) aL)))) (eC (.int 6))))) (aB (vV 2) (aB (vD (e2 bP (eC (.int 1)) (e2 dMod (e2 dDiv (rV 1) (eC (.int 18))) (eC (.int 2))))) aL))))))) sNx)
 lwU)))))):=id rfl
section
variable{r1 r2:List (List Nat)}{w1 w2:List Str}{sg sg2:Nat}
theorem u3{ns:List Int}{at' W:Int}{n sg:Nat}(hat:0<=at')(h1:1<=n)(h2:n<=1000)(s1:1<=sg)(s3:sg<=3)(w1:1<=W)(w3:W<=3):∃ (rows:List (List Nat)) (ws:List Str),bQ [.d (fB ns),.d (.int at'),.d (.int (n:Int)),.d (.int (sg:Int)),.d (.int W)]=.ok (.d (rdW rows ws))/\Rdw rows ws sg/\rows.length=n:=by
 rw[aH2]
 obtain ⟨rows,ws,e,R,l1,l2,hw⟩:=aEW (ns:=ns) hat h1 h2 s1 s3 w1 w3
 exact ⟨rows,ws,e,⟨R,by omega,fun w h=>hw w h⟩,l1⟩
noncomputable def lwρ(ns:List Int)(v0:Int)(sg n:Nat)(m1 m2:PyData)(u6 u7:Option A):Sg:=[some (.d (fB ns)),some (.d (.int v0)),some (.d (.int (sg:Int))),some (.d (.int (n:Int))),some (.d m1),some (.d m2),u6,u7,none,none]
theorem aH4{ns:List Int}{v0:Int}{n:Nat}{u7:Option A}(M1:Rdw r1 w1 sg)(M2:Rdw r2 w2 sg)(hn:1<=n/\n<=1000){ps:List (Int×Int)}(h1:1<=ps.length)(h2:ps.length<=900) :
  lwV (lwρ ns v0 sg n (rdW r1 w1) (rdW r2 w2) (some (.d (.list (ps.map prI)))) u7)=.ok (.rt (.d (.bool true))):=by
 have s1:=M1.r.s1
 have s3:=M1.r.s3
 obtain ⟨v3,hv3⟩:=lB ns 3
 have hm0:dMod (.int v3) (.int 2147483647)=.ok (.int (v3 % 2147483647)):=cH (by omega)
 have b0:=Int.emod_nonneg v3 (show (2147483647:Int)≠0 by omega)
 generalize v3 % 2147483647=more at hm0 b0
 have d54:dDiv (.int v0) (.int 54)=.ok (.int (v0 / 54)):=dP (by omega) (by omega)
 have m8:∀ x:Int,dMod (.int x) (.int 8)=.ok (.int (x % 8)):=fun x=>cH (by omega)
 have m3:∀ x:Int,dMod (.int x) (.int 3)=.ok (.int (x % 3)):=fun x=>cH (by omega)
 have dd:=lA
 by_cases hc:v0 / 54 % 8=2
 ·obtain ⟨r3,w3,e3,M3,_⟩:=u3 (ns:=ns) (at':=10) (W:=1) (n:=n) (sg:=1+sg % 3) (by omega) hn.1 hn.2 (by omega) (by omega) (by omega) (by omega)
  have hs:(((1+sg % 3:Nat)):Int)=1+(sg:Int) % 3:=by omega
  rw[hs] at e3
  have ht:=nV M1 M3 (ps:=ps) (by omega)
  generalize ps.map prI=P at *
  unfold lwV lwρ
  simp[hv3,hm0,d54,m8,m3,dd,hc,fz,e3,ht]
 ·have a0:=Int.emod_nonneg more (show (8:Int)≠0 by omega)
  have a8:=Int.emod_lt_of_pos more (show (0:Int) < 8 by omega)
  obtain ⟨qs,eq,ql⟩:=aGG h1 h2 (more % 8) (more / 8) a0 a8
  have d8:dDiv (.int more) (.int 8)=.ok (.int (more / 8)):=dP (by omega) (by omega)
  have d64:dDiv (.int more) (.int 64)=.ok (.int (more / 64)):=dP (by omega) (by omega)
  by_cases h6:more % 8=6
  ·rw[h6] at eq
   have n1:=M2.r.n1
   have hwl:=M2.wl
   obtain ⟨k,hk,hkl⟩:∃ k:Nat,more / 8 % (w2.length:Int)=k/\k < w2.length:=by
    have:=Int.emod_nonneg (more / 8) (show (w2.length:Int)≠0 by omega)
    have:=Int.emod_lt_of_pos (more / 8) (show 0 < (w2.length:Int) by omega)
    exact ⟨(more / 8 % (w2.length:Int)).toNat,by omega,by omega⟩
   have hmw:dMod (.int (more / 8)) (.int (w2.length:Int))=.ok (.int (k:Int)):=by rw[cH (by omega),hk]
   obtain ⟨w,hw,ew⟩:=xG (v:=more / 64) (m:=3) (by omega) (by omega)
   have i0:dIx (rdW r2 w2) (.int 0)=.ok (.tuple (r2.map bE)):=rfl
   have i1:dIx (rdW r2 w2) (.int 1)=.ok (.tuple (w2.map .str)):=rfl
   have hl2:dLen (.list (w2.map .str))=.ok (.int (w2.length:Int)):=by rw[iT,List.length_map]
   have hixN:ixN (w2.map PyData.str).length (k:Int)=some k:=by
    rw[List.length_map]
    unfold ixN
    simp
    omega
   have hset:(w2.map PyData.str).set k (.str w)=(w2.set k w).map PyData.str:=by rw[List.map_set]
   have hun:PyData.tuple [.tuple (r2.map bE),.tuple ((w2.set k w).map .str)]=rdW r2 (w2.set k w):=rfl
   have M3:Rdw r2 (w2.set k w) sg:=⟨M2.r,by rw[List.length_set];exact hwl,fun x hx=>by
    rcases List.mem_or_eq_of_mem_set hx with h|h
    · exact M2.ww x h
    · rw [h]; exact hw⟩
   have ht:=nV M1 M3 (ps:=qs) (by omega)
   generalize ps.map prI=P at *
   generalize qs.map prI=Q at *
   generalize rdW r2 (w2.set k w)=RW at *
   generalize (w2.set k w).map PyData.str=WS at *
   generalize w2.map PyData.str=WT at *
   unfold lwV lwρ
   simp[hv3,hm0,d54,m8,m3,dd,hc,h6,i0,i1,hl2,d8,d64,hmw,ew,hixN,hset,hun,fz,eq,ht]
  ·have ht:=nV M1 M2 (ps:=qs) (by omega)
   generalize ps.map prI=P at *
   generalize qs.map prI=Q at *
   unfold lwV lwρ
   simp[hv3,hm0,d54,m8,dd,hc,h6,d8,fz,eq,ht]
theorem aE5{ps:List (Int×Int)}(lo hi:Option Int):∃ qs:List (Int×Int),eW (ps.map prI) lo hi=qs.map prI/\qs.length<=ps.length/\((lo=none/\hi=none)->True):=by
 refine ⟨eW ps lo hi,?_,?_,fun _=>trivial⟩
 ·unfold eW
  rw[List.length_map,List.map_take,List.map_drop]
 ·unfold eW
  rw[List.length_take,List.length_drop];omega
theorem aE6{ns:List Int}{v0:Int}{n:Nat}(M1:Rdw r1 w1 sg)(M2:Rdw r2 w2 sg)(hn:1<=n/\n<=1000)(l1:r1.length<=6)(l2:r2.length<=6) :
  lwU (lwρ ns v0 sg n (rdW r1 w1) (rdW r2 w2) none none)=.ok (.rt (.d (.bool true))):=by
 have n1:=M1.r.n1
 have n2:=M2.r.n1
 have hN:r1.length * r2.length<=36:=Nat.mul_le_mul l1 l2
 have hf:=aES M1 M2 (by omega) (a:=0) (b:=0) n1 n2
 have hal:=oK M1.r M2.r (a:=0) (b:=0) n1 n2 (r1.length * r2.length)
 obtain ⟨ps,hps,pl⟩:∃ ps:List (Int×Int),(psM (fK r1 r2 0 0)).map (·.1)=ps.map prI/\ps.length=(fK r1 r2 0 0).length:=by
  rw[mN]
  have hmem:∀ p∈fK r1 r2 0 0,∃ c d,c < r1.length/\d < r2.length/\p.1=prN c d:=fun p hp=>by
   have:p.1∈bfQ (afP r1 r2) (prN 0 0) (r1.length * r2.length):=by rw[<-jF];exact List.mem_map_of_mem hp
   exact lU M1.r M2.r n1 n2 this
  generalize fK r1 r2 0 0=L at hmem
  clear hal hf hN
  induction L with
  | nil=>exact ⟨[],rfl,rfl⟩
  | cons p t ih=>
   obtain ⟨qs,e,el⟩:=ih fun q hq=>hmem q (List.mem_cons_of_mem _ hq)
   obtain ⟨c,d,_,_,e1⟩:=hmem p List.mem_cons_self
   exact ⟨((c:Int),(d:Int))::qs,by rw[List.map_cons,List.map_cons,e,e1];rfl,by rw[List.length_cons,List.length_cons,el]⟩
 have hlen:(fK r1 r2 0 0).length<=36:=by
  have:(fK r1 r2 0 0).length=_:=fQ (afP r1 r2) (prN 0 0) (r1.length * r2.length)
  omega
 have hpos:1<=(fK r1 r2 0 0).length:=by
  have:=zL (afP r1 r2) (prN 0 0) (r1.length * r2.length)
  exact (List.getElem?_eq_some_iff.mp this).1
 have hk:(psM (fK r1 r2 0 0)).length<=16777216:=by
  have:=congrArg List.length hps
  rw[List.length_map,List.length_map] at this
  omega
 rw[<-aH3] at hf
 have hp0:prN 0 0=.tuple [.int 0,.int 0]:=rfl
 rw[hp0] at hf
 obtain ⟨v2,hv2⟩:=lB ns 2
 have hl:dLen (.list (ps.map prI))=.ok (.int (ps.length:Int)):=by rw[iT,List.length_map]
 obtain ⟨c,hc,hcl⟩:∃ c:Nat,v2 % (ps.length:Int)=c/\c < ps.length:=by
  have:=Int.emod_nonneg v2 (show (ps.length:Int)≠0 by omega)
  have:=Int.emod_lt_of_pos v2 (show 0 < (ps.length:Int) by omega)
  exact ⟨(v2 % (ps.length:Int)).toNat,by omega,by omega⟩
 have hmc:dMod (.int v2) (.int (ps.length:Int))=.ok (.int (c:Int)):=by rw[cH (by omega),hc]
 have d64:dDiv (.int v2) (.int 64)=.ok (.int (v2 / 64)):=dP (by omega) (by omega)
 have hmd:dMod (.int (v2 / 64)) (.int ((ps.length:Int)+1))=.ok (.int (v2 / 64 % ((ps.length:Int)+1))):=cH (by omega)
 have hA:eW (ps.map prI) (some (c:Int)) none=(ps.drop c).map prI:=by
  unfold eW
  rw[HT.lL,HT.jO,List.length_map,Nat.min_eq_left (by omega),List.take_of_length_le (by simp),List.map_drop]
 have hB:eW (ps.map prI) none (some (c:Int))=(ps.take c).map prI:=by
  unfold eW
  rw[HT.lL,HT.jO,List.length_map,Nat.min_eq_left (by omega),List.drop_zero,Nat.sub_zero,List.map_take]
 obtain ⟨qs,hC,hq,_⟩:=aE5 (ps:=ps) none (some (v2 / 64 % ((ps.length:Int)+1)))
 have hr:(ps.drop c++ps.take c).length=ps.length:=by rw[List.length_append,List.length_drop,List.length_take];omega
 have c1:eN (.list ((ps.drop c).map prI)) (.list ((ps.take c).map prI))=.ok ((ps.drop c++ps.take c).map prI):=by
  rw[pV (by rw[List.length_map,List.length_map,List.length_drop,List.length_take];omega),List.map_append]
 have c2:eN (.list ((ps.drop c++ps.take c).map prI)) (.list (qs.map prI))=.ok ((ps.drop c++ps.take c++qs).map prI):=by
  rw[pV (by rw[List.length_map,List.length_map,hr];omega),List.map_append (l₂:=qs)]
 have hl3:(ps.drop c++ps.take c++qs).length<=72/\1<=(ps.drop c++ps.take c++qs).length:=by rw[List.length_append,hr];omega
 have hV:=fun u7=>aH4 (ns:=ns) (v0:=v0) (u7:=u7) M1 M2 hn (ps:=ps.drop c++ps.take c++qs) hl3.2 (by omega)
 have ht:=nV M1 M2 (ps:=ps.drop c++ps.take c++qs) (by omega)
 unfold lwρ at hV ⊢
 generalize psM (fK r1 r2 0 0)=KV at *
 generalize (ps.drop c++ps.take c++qs).map prI=P3 at *
 generalize (ps.drop c++ps.take c).map prI=P2 at *
 generalize (ps.drop c).map prI=PA at *
 generalize (ps.take c).map prI=PB at *
 generalize qs.map prI=PC at *
 generalize ps.map prI=P at *
 unfold lwU
 simp[hf,hk,hps,hv2,hl,hmc,d64,hmd,aAW,hA,hB,hC,c1,c2,fz,ht,hV]
end
theorem aAA(ns:List Int)(hlen:ns.length<=63):pT [.d (.list (ns.map .int))]=.ok (.d (.bool true)):=by
 show pT [.d (fB ns)]=_
 obtain ⟨v0,hv0⟩:=lB ns 0
 obtain ⟨v1,hv1⟩:=lB ns 1
 have m3:∀ x:Int,dMod (.int x) (.int 3)=.ok (.int (x % 3)):=fun x=>cH (by omega)
 have m6:∀ x:Int,dMod (.int x) (.int 6)=.ok (.int (x % 6)):=fun x=>cH (by omega)
 have m4:∀ x:Int,dMod (.int x) (.int 4)=.ok (.int (x % 4)):=fun x=>cH (by omega)
 have m2:∀ x:Int,dMod (.int x) (.int 2)=.ok (.int (x % 2)):=fun x=>cH (by omega)
 have d3:dDiv (.int v0) (.int 3)=.ok (.int (v0 / 3)):=dP (by omega) (by omega)
 have d18:dDiv (.int v0) (.int 18)=.ok (.int (v0 / 18)):=dP (by omega) (by omega)
 have d54:dDiv (.int v0) (.int 54)=.ok (.int (v0 / 54)):=dP (by omega) (by omega)
 obtain ⟨sg,hsg,s1,s3⟩:∃ sg:Nat,1+v0 % 3=(sg:Int)/\1<=sg/\sg<=3:=⟨(1+v0 % 3).toNat,by omega,by omega,by omega⟩
 obtain ⟨n,hn,n1,n6⟩:∃ n:Nat,1+v0 / 3 % 6=(n:Int)/\1<=n/\n<=6:=⟨(1+v0 / 3 % 6).toNat,by omega,by omega,by omega⟩
 obtain ⟨n',hn',n1',n6'⟩:∃ n:Nat,1+v1 % 6=(n:Int)/\1<=n/\n<=6:=⟨(1+v1 % 6).toNat,by omega,by omega,by omega⟩
 obtain ⟨r1,w1,e1,M1,l1⟩:=u3 (ns:=ns) (at':=4) (W:=1+v0 / 18 % 3) (n:=n) (sg:=sg) (by omega) n1 (by omega) s1 s3 (by omega) (by omega)
 obtain ⟨r2,w2,e2,M2,l2⟩:=aGF M1 v1
 have dd:=lA
 unfold pT
 rw[aE4]
 by_cases hc:v0 / 54 % 4=1
 ·obtain ⟨r3,w3,e3,M3,l3⟩:=u3 (ns:=ns) (at':=4+(n:Int)) (W:=1+v0 / 18 % 2) (n:=n') (sg:=sg) (by omega) n1' (by omega) s1 s3 (by omega) (by omega)
  have hU:=aE6 (ns:=ns) (v0:=v0) (n:=n) M1 M3 ⟨n1,by omega⟩ (by omega) (by omega)
  unfold lwρ at hU
  simp[hv0,hv1,m3,m6,m4,m2,d3,d18,d54,hsg,hn,hn',e1,e2,dd,hc,e3,hU]
 ·have hU:=aE6 (ns:=ns) (v0:=v0) (n:=n) M1 M2 ⟨n1,by omega⟩ (by omega) (by omega)
  unfold lwρ at hU
  simp[hv0,hv1,m3,m6,m4,m2,d3,d18,d54,hsg,hn,e1,e2,dd,hc,hU]
end Mc
namespace Mc
open PySem L2 PyProof.Rows Fl
section
variable{P:Program}{w:World}{K:Frag}{mg:Str->Option Value}{base:Heap}{TH:Hp}
theorem aCU(T:Txt w K mg)(D1:DefAt K mg "signs_by" (top 1) ["reader"])(D3:DefAt K mg "after_pair" (top 3) ["one","other","pair"])(D4:DefAt K mg "same_word" (top 4) ["one","other","pair"])(D6:DefAt K mg "are_rooms" (top 6) ["one","other","pair"])(D7:DefAt K mg "shows_alike" (top 7) ["one","other","pairs"])(D9:DefAt K mg "_law_cell" (top 9) ["_law_script","_law_k"])(D10:DefAt K mg "_law_oneway" (top 10) ["_law_script","_law_at","_law_rooms","_law_signs","_law_words"])(D11:DefAt K mg "_law_firsts" (top 11) ["_law_one","_law_two","_law_pair"])(D12:DefAt K mg "_law_due" (top 12) ["_law_one","_law_two","_law_pairs"])(D13:DefAt K mg "_law_turned" (top 13) ["_law_machine","_law_cut"])(D14:DefAt K mg "_law_spoilt" (top 14) ["_law_pairs","_law_how","_law_cell_here"])(D15:DefAt K mg "_law_told" (top 15) ["_law_one","_law_two","_law_pairs"]){fL:Addr}{fdL:FuncData}(FL:Fun K "law" "law" (top 16) fL fdL):FnOk P w K mg base (CXe P w) 4 fL fdL ["_law_script"] (pQ K TH):=by
 have c_signs_by:=@sC P w K mg base TH T D1
 have c_after_pair:=@pN P w K mg base TH T D3
 have c_same_word:=@rT P w K mg base TH T D4
 have c_are_rooms:=@rW P w K mg base TH T D6
 have c_shows_alike:=@oO P w K mg base TH T D7 c_signs_by c_same_word c_are_rooms c_after_pair
 have c__law_cell:=@rX P w K mg base TH T D9
 have c__law_oneway:=@oP P w K mg base TH T D10 c__law_cell
 have c__law_firsts:=@oQ P w K mg base TH T D11
 have c__law_due:=@sD P w K mg base TH T D12
 have c__law_turned:=@oR P w K mg base TH T D13
 have c__law_spoilt:=@oS P w K mg base TH T D14
 have c__law_told:=@rY P w K mg base TH T D15 c_shows_alike c__law_due
 exact aD6 (aEY (P:=P) (w:=w) (base:=base) (TH:=TH) T FL c__law_cell c__law_oneway c__law_turned c__law_firsts c__law_told c__law_spoilt) aAA
end
section
variable{w:World}{K:Frag}{h:Heap}{mg:Str->Option Value}
theorem aE7(X:K.In h)(G:h.Ns mainGlobals mg)(z_all:PySem.W.nsIn K mainGlobals "all"=some none)(z_bool:PySem.W.nsIn K mainGlobals "bool"=some none)(z_dict:PySem.W.nsIn K mainGlobals "dict"=some none)(z_enumerate:PySem.W.nsIn K mainGlobals "enumerate"=some none)(z_isinstance:PySem.W.nsIn K mainGlobals "isinstance"=some none)(z_len:PySem.W.nsIn K mainGlobals "len"=some none)(z_list:PySem.W.nsIn K mainGlobals "list"=some none)(z_max:PySem.W.nsIn K mainGlobals "max"=some none)(z_range:PySem.W.nsIn K mainGlobals "range"=some none)(z_tuple:PySem.W.nsIn K mainGlobals "tuple"=some none)(z_zip:PySem.W.nsIn K mainGlobals "zip"=some none):Txt w K mg:=⟨PySem.W.mg_none_of X G z_all,PySem.W.mg_none_of X G z_bool,PySem.W.mg_none_of X G z_dict,PySem.W.mg_none_of X G z_enumerate,PySem.W.mg_none_of X G z_isinstance,PySem.W.mg_none_of X G z_len,PySem.W.mg_none_of X G z_list,PySem.W.mg_none_of X G z_max,PySem.W.mg_none_of X G z_range,PySem.W.mg_none_of X G z_tuple,PySem.W.mg_none_of X G z_zip⟩
theorem aE8{fa f:Addr}{oc:Value}{od an:Option Addr}{osl:Array (Option Value)}{kV doc pm cdv ct:Value}(X:K.In h)(G:h.Ns mainGlobals mg)(hmg:mg "law"=some (.ref fa))(a:PySem.W.nsIn K mainGlobals "law"=some (some (.ref f)))(l:K.lookup f=some ⟨oc,od,.func (PySem.W.fnOf "law" "law" (eX (top 16)) (dC (top 16)) (aP (top 16)) .none kV doc pm an cdv ct),osl⟩)
  (c:PySem.W.codeIn K cdv "law"=true) (k:PySem.W.keepIn K (.ref f)=true):∃ fd,Fun K "law" "law" (top 16) fa fd/\∀ (s:Shared) (u:Value),BindsTo s fd ⟨[u],[]⟩ [("_law_script",u)]:=by
 have e:=hmg.symm.trans (PySem.W.mg_of X G a)
 cases e
 exact ⟨_,vN (st:=top 16) l c k,fun s u=>.of_eq rfl⟩
end
end Mc
open PySem PySem.W PyProof.Rows
set_option maxRecDepth 100000 in
set_option maxHeartbeats 0 in
theorem PySem.Challenge.cw_striproam_k29_looker_of_pairs_holds : PySem.Challenge.rw_striproam_k29_looker_of_pairs.Holds := by
 w_on;o_law;k_head;(case hw=>w_witness2)
 k_fill
 refine Fl.aD7 (l:=PySem.Challenge.rw_striproam_k29_looker_of_pairs) (k:=4) (x:="_law_script") rfl rfl ⟨rfl,by decide,by decide⟩ (fun w h Y=>PySem.W.kIn_of Y) ?F
 case F=>
  intro w mg fa h KX G hmg
  have D1:L2.DefAt (L2.KOf KX) mg "signs_by" (Mc.top 1) ["reader"]:=by dsimp only[L2.KOf];refine' Mc.dF KX G ?a ?l ?c ?k ?b;(case a=>k_is);(case l=>k_is);(case c=>k_is);(case k=>k_is);(case b=>exact fun _ _ _ _ _ _=>Mc.bn1 fun _=>rfl)
  have D3:L2.DefAt (L2.KOf KX) mg "after_pair" (Mc.top 3) ["one","other","pair"]:=by dsimp only[L2.KOf];refine' Mc.dF KX G ?a ?l ?c ?k ?b;(case a=>k_is);(case l=>k_is);(case c=>k_is);(case k=>k_is);(case b=>exact fun _ _ _ _ _ _=>Mc.bn3 fun _ _ _=>rfl)
  have D4:L2.DefAt (L2.KOf KX) mg "same_word" (Mc.top 4) ["one","other","pair"]:=by dsimp only[L2.KOf];refine' Mc.dF KX G ?a ?l ?c ?k ?b;(case a=>k_is);(case l=>k_is);(case c=>k_is);(case k=>k_is);(case b=>exact fun _ _ _ _ _ _=>Mc.bn3 fun _ _ _=>rfl)
  have D6:L2.DefAt (L2.KOf KX) mg "are_rooms" (Mc.top 6) ["one","other","pair"]:=by dsimp only[L2.KOf];refine' Mc.dF KX G ?a ?l ?c ?k ?b;(case a=>k_is);(case l=>k_is);(case c=>k_is);(case k=>k_is);(case b=>exact fun _ _ _ _ _ _=>Mc.bn3 fun _ _ _=>rfl)
  have D7:L2.DefAt (L2.KOf KX) mg "shows_alike" (Mc.top 7) ["one","other","pairs"]:=by dsimp only[L2.KOf];refine' Mc.dF KX G ?a ?l ?c ?k ?b;(case a=>k_is);(case l=>k_is);(case c=>k_is);(case k=>k_is);(case b=>exact fun _ _ _ _ _ _=>Mc.bn3 fun _ _ _=>rfl)
  have D9:L2.DefAt (L2.KOf KX) mg "_law_cell" (Mc.top 9) ["_law_script","_law_k"]:=by dsimp only[L2.KOf];refine' Mc.dF KX G ?a ?l ?c ?k ?b;(case a=>k_is);(case l=>k_is);(case c=>k_is);(case k=>k_is);(case b=>exact fun _ _ _ _ _ _=>Mc.bn2 fun _ _=>rfl)
  have D10:L2.DefAt (L2.KOf KX) mg "_law_oneway" (Mc.top 10) ["_law_script","_law_at","_law_rooms","_law_signs","_law_words"]:=by dsimp only[L2.KOf];refine' Mc.dF KX G ?a ?l ?c ?k ?b;(case a=>k_is);(case l=>k_is);(case c=>k_is);(case k=>k_is);(case b=>exact fun _ _ _ _ _ _=>Mc.bn5 fun _ _ _ _ _=>rfl)
  have D11:L2.DefAt (L2.KOf KX) mg "_law_firsts" (Mc.top 11) ["_law_one","_law_two","_law_pair"]:=by dsimp only[L2.KOf];refine' Mc.dF KX G ?a ?l ?c ?k ?b;(case a=>k_is);(case l=>k_is);(case c=>k_is);(case k=>k_is);(case b=>exact fun _ _ _ _ _ _=>Mc.bn3 fun _ _ _=>rfl)
  have D12:L2.DefAt (L2.KOf KX) mg "_law_due" (Mc.top 12) ["_law_one","_law_two","_law_pairs"]:=by dsimp only[L2.KOf];refine' Mc.dF KX G ?a ?l ?c ?k ?b;(case a=>k_is);(case l=>k_is);(case c=>k_is);(case k=>k_is);(case b=>exact fun _ _ _ _ _ _=>Mc.bn3 fun _ _ _=>rfl)
  have D13:L2.DefAt (L2.KOf KX) mg "_law_turned" (Mc.top 13) ["_law_machine","_law_cut"]:=by dsimp only[L2.KOf];refine' Mc.dF KX G ?a ?l ?c ?k ?b;(case a=>k_is);(case l=>k_is);(case c=>k_is);(case k=>k_is);(case b=>exact fun _ _ _ _ _ _=>Mc.bn2 fun _ _=>rfl)
  have D14:L2.DefAt (L2.KOf KX) mg "_law_spoilt" (Mc.top 14) ["_law_pairs","_law_how","_law_cell_here"]:=by dsimp only[L2.KOf];refine' Mc.dF KX G ?a ?l ?c ?k ?b;(case a=>k_is);(case l=>k_is);(case c=>k_is);(case k=>k_is);(case b=>exact fun _ _ _ _ _ _=>Mc.bn3 fun _ _ _=>rfl)
  have D15:L2.DefAt (L2.KOf KX) mg "_law_told" (Mc.top 15) ["_law_one","_law_two","_law_pairs"]:=by dsimp only[L2.KOf];refine' Mc.dF KX G ?a ?l ?c ?k ?b;(case a=>k_is);(case l=>k_is);(case c=>k_is);(case k=>k_is);(case b=>exact fun _ _ _ _ _ _=>Mc.bn3 fun _ _ _=>rfl)
  have T:Mc.Txt w (L2.KOf KX) mg:=by
   dsimp only[L2.KOf]
   refine' Mc.aE7 KX G ?z_all ?z_bool ?z_dict ?z_enumerate ?z_isinstance ?z_len ?z_list ?z_max ?z_range ?z_tuple ?z_zip
   (case z_all=>k_is);(case z_bool=>k_is);(case z_dict=>k_is);(case z_enumerate=>k_is);(case z_isinstance=>k_is);(case z_len=>k_is);(case z_list=>k_is);(case z_max=>k_is);(case z_range=>k_is);(case z_tuple=>k_is);(case z_zip=>k_is)
  have LL:∃ fd,L2.Fun (L2.KOf KX) "law" "law" (Mc.top 16) fa fd/\∀ (s:Shared) (u:Value),BindsTo s fd ⟨[u],[]⟩ [("_law_script",u)]:=by
   dsimp only[L2.KOf]
   refine' Mc.aE8 KX G hmg ?a4 ?l4 ?c4 ?k4
   (case a4=>k_is);(case l4=>k_is);(case c4=>k_is);(case k4=>k_is)
  obtain ⟨fd,FL,hb⟩:=LL
  exact ⟨fd,hb,fun base _ _=>Mc.aCU T  D1 D3 D4 D6 D7 D9 D10 D11 D12 D13 D14 D15 FL⟩
end
