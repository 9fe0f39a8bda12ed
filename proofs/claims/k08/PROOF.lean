import PyProof.Rows.All
import Wide.All
import OpenK.AllK
import Wide.FinOn
import Lean
import PyProof.EqAt
import PyProof.EqKinds
import PyProof.TupleCall
import PyProof.ExcInit
import PyProof.InstStoreFacts
import PyProof.StrLawsFirst
import PyProof.StrLawsIn
import KE.KLam
import PyProof.ListMulRoad
import PyProof.Rows.ListMul
import PyProof.ZipIter
import PyProof.Draws
import PyProof.ListStr
import PyProof.DictWalks
import PyProof.DictTruth
import PyProof.ListRange
import PyProof.StrLaws
import PyProof.StrLawsIdx
import PyProof.P3In
import PyProof.AttrMissHeap
import PyProof.StrBlock2
import PyProof.Rows.StrClip
import PySem.Challenge.RW_striproam_k08_papers_spoilt
set_option linter.all false
set_option maxRecDepth 100000
set_option maxHeartbeats 4000000
set_option Elab.async false
set_option linter.all false
set_option maxRecDepth 100000
set_option genSizeOf false
def PySem.W.Fast.tw7907097333439253817:=()
def PySem.W.Fast.tw1508371931332055460:=()
def PySem.W.Fast.tw4901104503445009893:=()
def PySem.W.Fast.tw8470015578294211624:=()
def PySem.W.Fast.tw11897575881454842761:=()
def PySem.W.Fast.tw12704505663134239618:=()
def PySem.W.Fast.tw17416966187920520195:=()
def PySem.W.Fast.tw17835152997900970343:=()
def PySem.W.Fast.tw7052167301629294582:=()
def PySem.W.Fast.tw1647460388381340455:=()
theorem Mc.bn1{α:Type}{P:List α->Prop}(h:∀ a,P [a]):∀ us:List α,us.length=1->P us
 | [a],_=>h a
theorem Mc.bn2{α:Type}{P:List α->Prop}(h:∀ a b,P [a,b]):∀ us:List α,us.length=2->P us
 | [a,b],_=>h a b
theorem Mc.bn3{α:Type}{P:List α->Prop}(h:∀ a b c,P [a,b,c]):∀ us:List α,us.length=3->P us
 | [a,b,c],_=>h a b c
theorem Mc.bn4{α:Type}{P:List α->Prop}(h:∀ a b c d,P [a,b,c,d]):∀ us:List α,us.length=4->P us
 | [a,b,c,d],_=>h a b c d
theorem Mc.bn5{α:Type}{P:List α->Prop}(h:∀ a b c d e,P [a,b,c,d,e]):∀ us:List α,us.length=5->P us
 | [a,b,c,d,e],_=>h a b c d e
open PySem.W (Frag)
noncomputable section
namespace L2
open PySem PySem.Spec PyProof.Rows
abbrev Key:=Sum Int Str
noncomputable def rL:Key->Value->Bool
 | .inl k,v=>Value.isInt k v
 | .inr x,v=>Value.isStrOf x v
noncomputable def aPI(w:World):Key->Int
 | .inl k=>hashInt k
 | .inr x=>hashStr w x
theorem keyIs_shape:∀ {k:Key} {v:Value},rL k v=true->(∃ i t,k=Sum.inl i/\v=Value.int i t)\/(∃ x t,k=Sum.inr x/\v=Value.str x t)
 | .inl i,v,h=>by
  obtain ⟨t,e⟩:=Value.isInt_shape (k:=i) (v:=v) h
  exact .inl ⟨i,t,rfl,e⟩
 | .inr x,v,h=>by
  obtain ⟨t,e⟩:=Value.isStrOf_shape (x:=x) (v:=v) h
  exact .inr ⟨x,t,rfl,e⟩
theorem aEQ(i:Int)(t:Tok):rL (.inl i) (.int i t)=true:=by simp[rL,Value.isInt]
theorem aER(x:Str)(t:Tok):rL (.inr x) (.str x t)=true:=by simp[rL,Value.isStrOf]
theorem aLT(a b:Int):decide ((Sum.inl a:Key)=Sum.inl b)=(a == b):=by
 by_cases e:a=b
 ·subst e;simp
 ·have h:¬ (Sum.inl a:Key)=Sum.inl b:=fun q=>e (Sum.inl.inj q)
  rw[decide_eq_false h]
  exact (beq_eq_false_iff_ne.mpr e).symm
theorem aLU(a b:Str):decide ((Sum.inr a:Key)=Sum.inr b)=decide (a=b):=by
 by_cases e:a=b
 ·subst e;simp
 ·have h:¬ (Sum.inr a:Key)=Sum.inr b:=fun q=>e (Sum.inr.inj q)
  rw[decide_eq_false h,decide_eq_false e]
theorem aLV(a:Int)(b:Str):decide ((Sum.inl a:Key)=Sum.inr b)=false:=decide_eq_false (fun q=>nomatch q)
theorem aLW(a:Str)(b:Int):decide ((Sum.inr a:Key)=Sum.inl b)=false:=decide_eq_false (fun q=>nomatch q)
noncomputable def eG(prog:Program)(w:World):PySem.KeyKind prog w Key where
 is:=rL
 hash:=aPI w
 inj:=fun v a b ha hb=>by
  rcases keyIs_shape ha with ⟨i,t,rfl,rfl⟩|⟨x,t,rfl,rfl⟩
  ·rcases keyIs_shape hb with ⟨j,u,rfl,e⟩|⟨y,u,rfl,e⟩
   · injection e with e1 _; rw [e1]
   · exact nomatch e
  ·rcases keyIs_shape hb with ⟨j,u,rfl,e⟩|⟨y,u,rfl,e⟩
   · exact nomatch e
   · injection e with e1 _; rw [e1]
 byValue:=fun k v h=>by
  rcases keyIs_shape h with ⟨i,t,rfl,rfl⟩|⟨x,t,rfl,rfl⟩<;>rfl
 pyHash:=fun hv h=>by
  rcases keyIs_shape hv with ⟨i,t,rfl,rfl⟩|⟨x,t,rfl,rfl⟩
  ·exact wpAny_pyHash_int h
  ·exact wpAny_pyHash_str h
 eqBool:=fun hu hv h=>by
  rcases keyIs_shape hu with ⟨i,t,rfl,rfl⟩|⟨x,t,rfl,rfl⟩
  ·rcases keyIs_shape hv with ⟨j,u,rfl,rfl⟩|⟨y,u,rfl,rfl⟩
   · rw [aLT] at h; exact wpAny_eqBool_int h
   · rw [aLV] at h; exact SeqAt.EqAt.int_str i t y u _ _ _ _ h
  ·rcases keyIs_shape hv with ⟨j,u,rfl,rfl⟩|⟨y,u,rfl,rfl⟩
   · rw [aLW] at h; exact SeqAt.EqAt.str_int x t j u _ _ _ _ h
   · rw [aLU] at h; exact wpAny_eqBool_str h
 «strs»:=fun k x t v h=>by
  rcases keyIs_shape h with ⟨i,u,rfl,e⟩|⟨y,u,rfl,e⟩
  ·exact nomatch e
  ·injection e with e1 _
   subst e1
   cases v<;>rfl
theorem aBQ(prog:Program)(w:World)(i:Int)(t:Tok):(eG prog w).is (.inl i) (.int i t)=true:=aEQ i t
theorem aBR(prog:Program)(w:World)(x:Str)(t:Tok):(eG prog w).is (.inr x) (.str x t)=true:=aER x t
end L2
namespace L2
open PySem PySem.Spec PyProof.Rows
inductive V where
 | non|bl (b:Bool)|int (i:Int)|str (x:Str)|byt (b:Array UInt8)|flt (b:UInt64)|ref (a:Addr)|ty (n:String)
 deriving DecidableEq
def bS:V->Value->Prop
 | .non,u=>u=Value.none
 | .bl b,u=>u=Value.bool b
 | .int i,u=>∃ t,u=Value.int i t
 | .str x,u=>∃ t,u=Value.str x t
 | .byt b,u=>∃ t,u=Value.bytes b t
 | .flt b,u=>∃ t,u=Value.float b t
 | .ref a,u=>u=Value.ref a
 | .ty n,u=>u=Value.type n
abbrev bJ:List V->List Value->Prop:=Paired bS
theorem bJ.length{xs:List V}{us:List Value}(r:bJ xs us):xs.length=us.length:=Paired.length r
theorem bJ.get:∀ {xs:List V} {us:List Value} {i:Nat} {x:V},bJ xs us->xs[i]? = some x->∃ u,us[i]? = some u/\bS x u
 | _,_,_,_,.nil,e=>by simp at e
 | _,_,0,_,.cons r _,e=>by simp at e;subst e;exact ⟨_,rfl,r⟩
 | _,_,i+1,x,.cons _ t,e=>by
  obtain ⟨u,h1,h2⟩:=bJ.get (i:=i) (x:=x) t (by simpa using e)
  exact ⟨u,by simpa using h1,h2⟩
theorem bJ.set{x:V}{u:Value}(r:bS x u):∀ {xs:List V} {us:List Value} (i:Nat),bJ xs us->bJ (xs.set i x) (us.set i u)
 | _,_,_,.nil=>.nil
 | _,_,0,.cons _ t=>.cons r t
 | _,_,i+1,.cons q t=>.cons q (bJ.set r i t)
theorem bJ.append:∀ {xs ys:List V} {us ws:List Value},bJ xs us->bJ ys ws->bJ (xs++ys) (us++ws)
 | _,_,_,_,.nil,s=>s
 | _,_,_,_,.cons r t,s=>.cons r (bJ.append t s)
theorem bJ.take:∀ {xs:List V} {us:List Value} (n:Nat),bJ xs us->bJ (xs.take n) (us.take n)
 | _,_,0,_=>.nil
 | _,_,_+1,.nil=>.nil
 | _,_,n+1,.cons r t=>.cons r (bJ.take n t)
theorem bJ.drop:∀ {xs:List V} {us:List Value} (n:Nat),bJ xs us->bJ (xs.drop n) (us.drop n)
 | _,_,0,r=>r
 | _,_,_+1,.nil=>.nil
 | _,_,n+1,.cons _ t=>bJ.drop n t
def gZ:Option V->Option Value->Prop
 | some v,some u=>bS v u
 | none,none=>True
 | _,_=>False
def KV{κ:Type}:List (κ×V)->List (κ×Value)->Prop:=Paired fun (p:κ×V) (q:κ×Value)=>p.1=q.1/\bS p.2 q.2
noncomputable def kV:Key->V
 | .inl i=>.int i
 | .inr x=>.str x
inductive HO where
 | lst (xs:List V)
 | tup (xs:List V)
 | dK (kvs:List (Key×V))|dT (kvs:List (List Key×V))
 | set (S:Int->Bool) (n:Nat)
 | ins (C dx:Addr) (fs:List (Str×V))
 | own (x:Addr)
 | xd (fs:List (Str×V))
 | met (f x:Addr)
 | rng (lo hi:Int)
 | frz (o:Obj) (u:HO)
 | tbl (qs:List (Pos×Str))
 | cod (q:Str)
 | ext (φ:Heap->Prop)
abbrev Hp:=Addr->Option HO
noncomputable def upd(H:Hp)(a:Addr)(o:HO):Hp:=fun b=>if b=a then some o else H b
theorem aY{H:Hp}{a:Addr}{o:HO}:upd H a o a=some o:=by unfold upd;rw[if_pos rfl]
theorem aP{H:Hp}{a b:Addr}{o:HO}(h:b≠a):upd H a o b=H b:=by unfold upd;rw[if_neg h]
theorem iQ{H:Hp}{a:Addr}{o u:HO}:upd (upd H a o) a u=upd H a u:=by
 funext b;unfold upd;split<;>rfl
theorem c6{H:Hp}{a b:Addr}{o:HO}(h:H a=some o)(h':H b=none):a≠b:=by
 intro e;subst e;rw[h] at h';cases h'
section
variable(P:Program)(w:World)
def cS(H:Hp)(h:Heap)(a:Addr):HO->Prop
 | .lst xs=>xs.length<=sizeLine/\∃ (its:List Value) (n:Nat),bJ xs its/\h.get? a=some {cls:=.type "list",data:=.seq its.toArray n}
 | .tup xs=>xs.length<=sizeLine/\∃ its:List Value,bJ xs its/\IsTup h a its.toArray
 | .dK kvs=>kvs.length<=sizeLine/\(a == sysModules)=false/\∃ vs,KV kvs vs/\h.DictOf (eG P w) a vs
 | .dT kvs=>kvs.length<=sizeLine/\(a == sysModules)=false/\∃ xs:List (List Key×Addr×Value),
  Paired (fun (p:List Key×V) (q:List Key×Addr×Value)=>p.1=q.1/\H q.2.1=some (.tup (p.1.map kV))/\bS p.2 q.2.2) kvs xs /\
  ∃ o es ep,h.get? a=some o/\o.ExactDict/\o.data=.dict es ep/\es.toList=xs.map (entryOfKey (tupleKind (eG P w)))/\(xs.map (·.1)).Nodup
 | .set S n=>h.SetOf (intKind P w) a S n
 | .ins C dx fs=>H dx=some (.own a)/\fs.length<=1000/\dx≠a/\h.get? a=some (PySem.W.instObj C dx) /\
  ∃ mA,h.Ns1 dx mA/\(∀ f,gZ (fs.lookup f) (mA f))/\PySem.Within mA (fs.map (·.1))
 | .own _=>∃ o,h.get? a=some o
 | .xd fs=>∃ mA,h.Ns1 a mA/\∀ f,gZ (fs.lookup f) (mA f)
 | .rng lo hi=>∃ t u v,h.get? a=some {cls:=.type "range",data:=.fields #[.int lo t,.int hi u,.int 1 v]}
 | .frz o u=>h.get? a=some o/\cS H h a u
 | .tbl qs=>∃ ps:Array Value,h.get? a=some {cls:=.none,data:=.fields ps}/\TriplesOk ps.toList/\∀ p∈qs,codeAmong p.1 ps.toList=none\/∃ c,codeAmong p.1 ps.toList=some (.ref c)/\H c=some (.cod p.2)
 | .cod q=>h.CodeRec (.ref a) q
 | .met f x=>h.get? a=some (PySem.W.methodObj (.ref f) (.ref x))
 | .ext φ=>φ h/\(∃ o,h.get? a=some o)/\∀ h1 h2:Heap,φ h1->(∀ o,h1.get? a=some o->h2.get? a=some o)->φ h2
def HOk(H:Hp)(h:Heap):Prop:=∀ a o,H a=some o->cS P w H h a o
end
section
variable{P:Program}{w:World}{H H':Hp}{h h':Heap}{a:Addr}{o:HO}
theorem cS.lt(x:cS P w H h a o):a < h.objs.size:=by
 cases o with
 | lst xs=>obtain ⟨_,_,_,_,e⟩:=x;exact Heap.lt_size e
 | tup xs=>obtain ⟨_,_,_,p⟩:=x;exact p.lt
 | dK kvs=>obtain ⟨_,_,_,_,o,_,_,e,_⟩:=x;exact Heap.lt_size e
 | dT kvs=>obtain ⟨_,_,_,_,o,_,_,e,_⟩:=x;exact Heap.lt_size e
 | set S n=>obtain ⟨o,_,_,_,e,_⟩:=x;exact Heap.lt_size e
 | ins C dx fs=>obtain ⟨_,_,_,e,_⟩:=x;exact Heap.lt_size e
 | own y=>obtain ⟨_,e⟩:=x;exact Heap.lt_size e
 | xd fs=>obtain ⟨_,⟨_,_,_,e,_⟩,_⟩:=x;exact Heap.lt_size e
 | rng lo hi=>obtain ⟨_,_,_,e⟩:=x;exact Heap.lt_size e
 | frz ob u=>obtain ⟨e,_⟩:=x;exact Heap.lt_size e
 | tbl qs=>obtain ⟨ps,e,_⟩:=x;exact Heap.lt_size e
 | cod q=>obtain ⟨c,o,vs,t,e,ho,_⟩:=x;cases e;exact Heap.lt_size ho
 | met f y=>exact Heap.lt_size (show h.get? a=some _ from x)
 | ext φ=>obtain ⟨_,⟨_,e⟩,_⟩:=x;exact Heap.lt_size e
theorem Paired.mapP{α β:Type}{F G:α->β->Prop}:∀ {l₁:List α} {l₂:List β},Paired F l₁ l₂->(∀ a b,F a b->G a b)->Paired G l₁ l₂
 | _,_,.nil,_=>.nil
 | _,_,.cons r t,f=>.cons (f _ _ r) (Paired.mapP t f)
theorem cS.stay(x:cS P w H h a o)(k:∀ b u,(b=a\/H b=some (.own a))->h.get? b=some u->h'.get? b=some u)
  (ho:∀ b,H b=some (.own a)->H' b=some (.own a)) (hc:∀ b q,H b=some (.cod q)->H' b=some (.cod q)) (ht:∀ b xs,H b=some (.tup xs)->H' b=some (.tup xs)):cS P w H' h' a o:=by
 induction o with
 | lst xs=>obtain ⟨z,its,n,r,e⟩:=x;exact ⟨z,its,n,r,k _ _ (.inl rfl) e⟩
 | tup xs=>obtain ⟨z,its,r,ob,e,c⟩:=x;exact ⟨z,its,r,ob,k _ _ (.inl rfl) e,c⟩
 | dK kvs=>obtain ⟨z,y,vs,r,ob,es,ep,e,c⟩:=x;exact ⟨z,y,vs,r,ob,es,ep,k _ _ (.inl rfl) e,c⟩
 | dT kvs=>
  obtain ⟨z,y,xs,r,ob,es,ep,e,c⟩:=x
  exact ⟨z,y,xs,Paired.mapP r fun p q z=>⟨z.1,ht _ _ z.2.1,z.2.2⟩,ob,es,ep,k _ _ (.inl rfl) e,c⟩
 | set S n=>obtain ⟨ob,es,ep,t,e,c⟩:=x;exact ⟨ob,es,ep,t,k _ _ (.inl rfl) e,c⟩
 | ins C dx fs=>
  obtain ⟨d,z,ne,e,mA,⟨od,es,ep,e2,c⟩,r⟩:=x
  exact ⟨ho _ d,z,ne,k _ _ (.inl rfl) e,mA,⟨od,es,ep,k _ _ (.inr d) e2,c⟩,r⟩
 | own y=>obtain ⟨ob,e⟩:=x;exact ⟨ob,k _ _ (.inl rfl) e⟩
 | xd fs=>obtain ⟨mA,⟨od,es,ep,e,c⟩,r⟩:=x;exact ⟨mA,⟨od,es,ep,k _ _ (.inl rfl) e,c⟩,r⟩
 | rng lo hi=>obtain ⟨t,u,v,e⟩:=x;exact ⟨t,u,v,k _ _ (.inl rfl) e⟩
 | frz ob u ih=>obtain ⟨e,q⟩:=x;exact ⟨k _ _ (.inl rfl) e,ih q⟩
 | tbl qs=>
  obtain ⟨ps,e,t,r⟩:=x
  refine ⟨ps,k _ _ (.inl rfl) e,t,fun p hp=>?_⟩
  rcases r p hp with z|⟨c,z,z2⟩
  · exact .inl z
  · exact .inr ⟨c, z, hc _ _ z2⟩
 | cod q=>
  obtain ⟨c,o,vs,t,e,ho,r⟩:=x
  cases e
  exact ⟨_,o,vs,t,rfl,k _ _ (.inl rfl) ho,r⟩
 | met f y=>
  have e:h.get? a=some (PySem.W.methodObj (.ref f) (.ref y)):=x
  show h'.get? a=some (PySem.W.methodObj (.ref f) (.ref y))
  exact k a _ (.inl rfl) e
 | ext φ=>obtain ⟨p,⟨o,e⟩,st⟩:=x;exact ⟨st _ _ p fun o q=>k _ _ (.inl rfl) q,⟨o,k _ _ (.inl rfl) e⟩,st⟩
theorem HOk.lt(x:HOk P w H h)(e:H a=some o):a < h.objs.size:=(x a o e).lt
theorem HOk.fresh(x:HOk P w H h)(e:h.objs.size<=a):H a=none:=by
 cases q:H a with
 | none=>rfl
 | some u=>exact absurd (Nat.lt_of_lt_of_le (x.lt q) e) (Nat.lt_irrefl _)
theorem HOk.kept(x:HOk P w H h)(k:∀ b u,h.get? b=some u->h'.get? b=some u):HOk P w H h':=fun a o e=>
 (x a o e).stay (fun b u _ q=>k b u q) (fun _ q=>q) (fun _ _ q=>q) fun _ _ q=>q
theorem HOk.laid(x:HOk P w H h)(k:∀ b u,h.get? b=some u->h'.get? b=some u)(hp:h.objs.size<=a)(new:cS P w (upd H a o) h' a o):HOk P w (upd H a o) h':=fun b u e=>by
 have hn:=x.fresh hp
 by_cases hb:b=a
 ·subst hb;rw[aY] at e;cases e;exact new
 ·rw[aP hb] at e
  exact (x b u e).stay (fun c v _ q=>k c v q) (fun c q=>by rw[aP (c6 q hn)];exact q) (fun c xs q=>by rw[aP (c6 q hn)];exact q) fun c xs q=>by rw[aP (c6 q hn)];exact q
end
def Rd(H:Hp)(a:Addr)(u:HO):Prop:=H a=some u\/∃ o,H a=some (.frz o u)
theorem Rd.ok{P:Program}{w:World}{H:Hp}{h:Heap}{a:Addr}{u:HO}(r:Rd H a u)(x:HOk P w H h):cS P w H h a u:=by
 rcases r with r|⟨o,r⟩
 ·exact x a u r
 ·obtain ⟨_,q⟩:=x a _ r
  exact q
def Mut:Option HO->Prop
 | some (.lst _)=>True
 | some (.dK _)=>True
 | some (.dT _)=>True
 | some (.set _ _)=>True
 | some (.ins _ _ _)=>True
 | some (.ext _)=>True
 | _=>False
section
variable{P:Program}{w:World}{H:Hp}{h h':Heap}{x e:Addr}{o':HO}
theorem HOk.write(ok:HOk P w H h)(mu:Mut (H x))(he:e=x\/H e=some (.own x))(k:∀ b u,b≠e->h.get? b=some u->h'.get? b=some u)(heo:∃ u,h'.get? e=some u)
  (new:cS P w (upd H x o') h' x o'):HOk P w (upd H x o') h':=fun b u q=>by
 have nown:∀ c y,H c=some (.own y)->c≠x:=fun c y r z=>by subst z;rw[r] at mu;exact mu
 have ntup:∀ c xs,H c=some (.tup xs)->c≠x:=fun c xs r z=>by subst z;rw[r] at mu;exact mu
 have ncod:∀ c xs,H c=some (.cod xs)->c≠x:=fun c xs r z=>by subst z;rw[r] at mu;exact mu
 by_cases hb:b=x
 ·subst hb;rw[aY] at q;cases q;exact new
 ·rw[aP hb] at q
  by_cases hbe:b=e
  ·have q':H b=some (.own x):=by
    rcases he with z|z
    · exact absurd (hbe.trans z) hb
    · rw [hbe]; exact z
   rw[q] at q';cases q'
   obtain ⟨v,hv⟩:=heo
   exact ⟨v,by rw[hbe];exact hv⟩
  ·refine (ok b u q).stay (fun c v hc r=>k c v ?_ r) (fun c r=>by rw[aP (nown c b r)];exact r) (fun c xs r=>by rw[aP (ncod c xs r)];exact r) fun c xs r=>by rw[aP (ntup c xs r)];exact r
   rcases hc with rfl|hc
   ·exact hbe
   ·rintro rfl
    rcases he with z|z
    · exact nown c b hc z
    · rw [hc] at z; cases z; exact hb rfl
end
structure Un(fs ex:List Addr)(H H':Hp)(h h':Heap):Prop where
 keep:∀ b o,h.get? b=some o->H b=none->b∉fs->b∉ex->h'.get? b=some o
 slot:∀ b o,h.get? b=some o->H b=none->b∈fs->b∉ex->∃ sl,h'.get? b=some {o with slots:=sl}
 free:∀ b o,h.get? b=some o->H b=none->b∉ex->H' b=none
 there:∀ b o,h.get? b=some o->b∉ex->∃ o',h'.get? b=some o'
 tups:∀ b xs,H b=some (.tup xs)->H' b=some (.tup xs)
 frzs:∀ b o u,H b=some (.frz o u)->H' b=some (.frz o u)
 tbls:∀ b ps,H b=some (.tbl ps)->H' b=some (.tbl ps)
section
variable{fs fs' ex ex':List Addr}{H H1 H2:Hp}{h h1 h2 h':Heap}{a x e:Addr}{o:HO}
theorem Un.any(u:Un fs ex H H1 h h1){b:Addr}{ob:Obj}(q:h.get? b=some ob)(n:H b=none)(hx:b∉ex):∃ sl,h1.get? b=some {ob with slots:=sl}:=by
 by_cases hb:b∈fs
 · exact u.slot b ob q n hb hx
 · exact ⟨ob.slots, u.keep b ob q n hb hx⟩
theorem Un.trans(a:Un fs ex H H1 h h1)(b:Un fs ex H1 H2 h1 h2):Un fs ex H H2 h h2 where
 keep:=fun c ob q n hc hx=>b.keep c ob (a.keep c ob q n hc hx) (a.free c ob q n hx) hc hx
 slot:=fun c ob q n hc hx=>by
  obtain ⟨sl,e1⟩:=a.slot c ob q n hc hx
  obtain ⟨sl',e2⟩:=b.slot c _ e1 (a.free c ob q n hx) hc hx
  exact ⟨sl',e2⟩
 free:=fun c ob q n hx=>by
  obtain ⟨o',e1⟩:=a.there c ob q hx
  exact b.free c o' e1 (a.free c ob q n hx) hx
 there:=fun c ob q hx=>by
  obtain ⟨o',e1⟩:=a.there c ob q hx
  exact b.there c o' e1 hx
 tups:=fun c xs q=>b.tups c xs (a.tups c xs q)
 frzs:=fun c ob xs q=>b.frzs c ob xs (a.frzs c ob xs q)
 tbls:=fun c ps q=>b.tbls c ps (a.tbls c ps q)
theorem Un.kept(k:∀ b u,h.get? b=some u->h'.get? b=some u):Un fs ex H H h h':=
 ⟨fun b ob q _ _ _=>k b ob q,fun b ob q _ _ _=>⟨ob.slots,k b ob q⟩,fun _ _ _ n _=>n,fun b ob q _=>⟨ob,k b ob q⟩,fun _ _ q=>q,fun _ _ _ q=>q,fun _ _ q=>q⟩
theorem Un.refl:Un fs ex H H h h:=Un.kept fun _ _ q=>q
theorem Un.laid(k:∀ b u,h.get? b=some u->h'.get? b=some u)(hp:h.objs.size<=a)(hn:H a=none):Un fs ex H (upd H a o) h h' where
 keep:=fun b u q _ _ _=>k b u q
 slot:=fun b u q _ _ _=>⟨u.slots,k b u q⟩
 free:=fun b u q n _=>by rw[aP (Nat.ne_of_lt (Nat.lt_of_lt_of_le (Heap.lt_size q) hp))];exact n
 there:=fun b u q _=>⟨u,k b u q⟩
 tups:=fun b xs q=>by rw[aP (c6 q hn)];exact q
 frzs:=fun b u xs q=>by rw[aP (c6 q hn)];exact q
 tbls:=fun b ps q=>by rw[aP (c6 q hn)];exact q
theorem Un.write(mu:Mut (H x))(he:e=x\/H e=some (.own x))(k:∀ b u,b≠e->h.get? b=some u->h'.get? b=some u)(heo:∃ u,h'.get? e=some u):Un fs ex H (upd H x o) h h':=by
 have hx:∀ b,H b=none->b≠x:=fun b n z=>by subst z;rw[n] at mu;exact mu
 have hb:∀ b,H b=none->b≠e:=fun b n z=>by
  subst z
  rcases he with r|r
  · exact hx b n r
  · rw [n] at r; cases r
 have hm:∀ b u,H b=some u->¬ Mut (some u)->b≠x:=fun b u q nm z=>by subst z;rw[q] at mu;exact nm mu
 refine ⟨fun b u q n _ _=>k b u (hb b n) q,fun b u q n _ _=>⟨u.slots,k b u (hb b n) q⟩,fun b u q n _=>by rw[aP (hx b n)];exact n,fun b u q _=>?_,
  fun b xs q=>by rw[aP (hm b _ q fun z=>z)];exact q,fun b u xs q=>by rw[aP (hm b _ q fun z=>z)];exact q,fun b ps q=>by rw[aP (hm b _ q fun z=>z)];exact q⟩
 by_cases hbe:b=e
 ·subst hbe;exact heo
 ·exact ⟨u,k b u hbe q⟩
end
noncomputable def trk(h:Heap)(H:Hp):List Addr:=(List.range h.objs.size).filter fun a=>(H a).isSome
def oW(h:Heap)(H:Hp):Heap:=PySem.W.hideAll h (trk h H)
theorem aES(h:Heap)(H:Hp):(oW h H).objs.size=h.objs.size:=PySem.W.hideAll_size _ _
theorem aGR{h:Heap}{H:Hp}{b:Addr}{o:Obj}(e:h.get? b=some o)(n:H b=none):(oW h H).get? b=some o:=
 PySem.W.hideAll_get _ e fun hm=>by
  have q:(H b).isSome=true:=(List.mem_filter.mp hm).2
  rw[n] at q;simp at q
theorem aJU{h:Heap}{H:Hp}{b:Addr}{o:Obj}(e:(oW h H).get? b=some o):h.get? b=some o/\H b=none:=by
 have e':h.get? b=some o:=PySem.W.of_hideAll (trk h H) e
 refine ⟨e',?_⟩
 cases q:H b with
 | none=>rfl
 | some x=>
  have hm:b∈trk h H:=List.mem_filter.mpr ⟨List.mem_range.mpr (Heap.lt_size e'),by simp[q]⟩
  have z:(oW h H).get? b=none:=PySem.W.hideAll_none (trk h H) hm
  rw[z] at e;cases e
def aJV(g h:Heap)(L:Addr):List (Addr×Obj):=(List.range h.objs.size).filterMap fun a=>if a=L\/(g.get? a).isSome=true then none else (h.get? a).map fun o=>(a,o)
def rest(g h:Heap)(L d:Addr):List (Addr×Obj):=(aJV g h L).filter fun p=>decide (p.1≠d)
end L2
namespace L2
open PySem PySem.Spec PyProof.Rows
structure Mod(K:Frag)(mg:Str->Option Value)(base:Heap):Prop where
 kin:K.In base
 glob:base.Ns mainGlobals mg
 blt:∃ mb,base.Ns builtinsNs mb/\∀ x:Str,x≠"__name__"->mb x=bootBuiltins x
 nolimit:base.NoLimit
structure Cx where
 prog:Program
 w:World
 K:Frag
 mg:Str->Option Value
 base:Heap
 A:Around
 N:List Str
 s₀:Shared
 H₀:Hp
 env:Env
 outer:List Env
 stack:List Env
 ex:List Addr
 fn:Str->Bool
 calm:Bool
 pn:List (Addr×Obj)
 xe:Value->Shared->Prop
noncomputable def frs(l:List Env):List Addr:=l.filterMap (·.frame)
abbrev Cx.fs(X:Cx):List Addr:=frs X.outer
def Vis(sc:Scope)(x:Str):Prop:=sc.names.lookup x=some .local\/sc.names.lookup x=some .cell\/sc.names.lookup x=some .free
def Loc(sc:Scope)(x:Str):Prop:=sc.names.lookup x=some .local\/sc.names.lookup x=some .cell
def aPJ(env:Env)(h:Heap)(m:Str->Option Value)(x:Str)(u:Value):Prop:=
 (env.kindOf x=some .local/\m x=some u)\/((env.kindOf x=some .cell\/env.kindOf x=some .free)/\∃ c,env.cells.lookup x=some c/\h.IsCell c (some u))
structure Cx.Ok(X:Cx):Prop where
 mod:Mod X.K X.mg X.base
 kind:X.env.scope.kind=.function
 glob:X.env.globals=mainGlobals
 blt:X.env.builtins=builtinsNs
 above:X.s₀.heap.objs.size<=X.env.locals
 inj:∀ x y c,X.env.cells.lookup x=some c->X.env.cells.lookup y=some c->x=y
 has:∀ x,(X.env.kindOf x=some .cell\/X.env.kindOf x=some .free)->∃ c,X.env.cells.lookup x=some c
 cab:∀ x c,X.fn x=true->X.env.cells.lookup x=some c->X.s₀.heap.objs.size<=c
 hd:X.calm=true->X.A.handled=none
 frames:X.A.frames=some X.stack
 stk:X.stack=X.outer\/(X.stack=X.env::X.outer/\X.env.frame=some X.env.locals)
 exf:∀ b∈X.ex,b≠X.env.locals/\∀ x c,X.env.cells.lookup x=some c->c≠b
 bs:∀ b o,X.base.get? b=some o->X.s₀.heap.get? b=some o/\X.H₀ b=none
 bsz:X.base.objs.size<=X.s₀.heap.objs.size
 noex:∀ b o,X.base.get? b=some o->b∉X.ex
 exfs:∀ b∈X.ex,b∉X.fs
 funs:X.s₀.heap.FunFrames X.base X.outer
 frf:∀ b∈X.fs,X.H₀ b=none
structure Inv(X:Cx)(pins:List (Addr×Obj))(σ:List (Option V))(H:Hp)(s:Shared):Prop where
 ok:X.Ok
 os:s.os=X.s₀.os
 bare:AllBare s.gens
 base:Un X.fs X.ex X.H₀ H X.s₀.heap s.heap
 loc:∃ m,s.heap.Ns X.env.locals m/\∀ (i:Nat) (x:Str) (v:V),X.N[i]? = some x->σ[i]? = some (some v)->Vis X.env.scope x->∃ u,bS v u/\aPJ X.env s.heap m x u
 cell:∀ x c,X.env.cells.lookup x=some c->∃ v,s.heap.IsCell c v
 free:H X.env.locals=none
 freeC:∀ x c,X.env.cells.lookup x=some c->H c=none
 pin:∀ p∈X.pn++pins,s.heap.get? p.1=some p.2/\H p.1=none/\p.1≠X.env.locals/\p.1∉X.fs/\∀ v,p.2.data≠.cell v
 hok:HOk X.prog X.w H s.heap
 len:σ.length=X.N.length
section
variable{X:Cx}{pins:List (Addr×Obj)}{σ:List (Option V)}{H H':Hp}{s:Shared}{h':Heap}
theorem Cx.Ok.nofr(ok:X.Ok){b:Addr}{o:Obj}(e:X.base.get? b=some o):b∉X.fs:=fun hb=>by
 have:=(ok.funs.mem hb).1
 rw[e] at this;cases this
theorem Inv.bs(I:Inv X pins σ H s):∀ b o,X.base.get? b=some o->s.heap.get? b=some o/\H b=none:=fun b o e=>
 ⟨I.base.keep b o (I.ok.bs b o e).1 (I.ok.bs b o e).2 (I.ok.nofr e) (I.ok.noex b o e),I.base.free b o (I.ok.bs b o e).1 (I.ok.bs b o e).2 (I.ok.noex b o e)⟩
theorem Inv.bk(I:Inv X pins σ H s):∀ b o,X.base.get? b=some o->s.heap.get? b=some o:=fun b o e=>(I.bs b o e).1
theorem Inv.mod(I:Inv X pins σ H s):Mod X.K X.mg X.base:=I.ok.mod
theorem Inv.kIn(I:Inv X pins σ H s):X.K.In s.heap:=I.ok.mod.kin.keeps I.bk
theorem Inv.lt(I:Inv X pins σ H s):X.env.locals < s.heap.objs.size:=let ⟨_,hn,_⟩:=I.loc;hn.lt
theorem Inv.sz(I:Inv X pins σ H s):X.s₀.heap.objs.size<=s.heap.objs.size:=Nat.le_trans I.ok.above (Nat.le_of_lt I.lt)
theorem Inv.nofs(I:Inv X pins σ H s){a:Addr}(h:s.heap.objs.size<=a):a∉X.fs:=fun hb=>by
 obtain ⟨_,o,ho,_⟩:=I.ok.funs.mem hb
 exact absurd (Nat.lt_of_lt_of_le (Heap.lt_size ho) (Nat.le_trans I.sz h)) (Nat.lt_irrefl _)
theorem Inv.cne(I:Inv X pins σ H s):∀ x c,X.env.cells.lookup x=some c->c≠X.env.locals:=fun x c e z=>by
 obtain ⟨v,o,ho,hd⟩:=I.cell x c e
 obtain ⟨m,⟨o',es,ep,ho',hd',_⟩,_⟩:=I.loc
 rw[z,ho'] at ho;cases ho;rw[hd'] at hd;cases hd
theorem Inv.funs(I:Inv X pins σ H s):s.heap.FunFrames X.base X.outer:=by
 have all:∀ (l:List Env),(∀ b∈frs l,b∈X.fs)->X.s₀.heap.FunFrames X.base l->s.heap.FunFrames X.base l:=by
  intro l
  induction l with
  | nil=>intro _ _;trivial
  | cons env r ih=>
   intro hs hl
   obtain ⟨hk,⟨L,o,hf,hn,ho,hd⟩,hr⟩:=hl
   have hL:L∈X.fs:=hs L (by unfold frs;rw[List.filterMap_cons,hf];exact List.mem_cons_self)
   obtain ⟨sl,e⟩:=I.base.slot L o ho (I.ok.frf L hL) hL fun z=>I.ok.exfs L z hL
   exact ⟨hk,⟨L,_,hf,hn,e,hd⟩,ih (fun b hb=>hs b (by unfold frs;rw[List.filterMap_cons,hf];exact List.mem_cons_of_mem _ hb)) hr⟩
 exact all X.outer (fun _ hb=>hb) I.ok.funs
theorem Inv.stack(I:Inv X pins σ H s):s.heap.FunFrames X.base X.stack:=by
 rcases I.ok.stk with e|⟨e,hf⟩
 ·rw[e];exact I.funs
 ·rw[e]
  obtain ⟨m,hn,_⟩:=I.loc
  refine .cons (by rw[I.ok.kind];decide) hf hn ?_ I.funs
  exact Heap.get?_none_of_le (Nat.le_trans I.ok.bsz I.ok.above)
theorem Inv.stkSub(I:Inv X pins σ H s):∀ b∈frs X.stack,b∈X.env.locals::X.fs:=fun b hb=>by
 rcases I.ok.stk with e|⟨e,hf⟩
 ·rw[e] at hb;exact List.mem_cons_of_mem _ hb
 ·rw[e] at hb
  unfold frs at hb
  rw[List.filterMap_cons,hf] at hb
  exact hb
theorem Inv.stkFree(I:Inv X pins σ H s):∀ b∈frs X.stack,H b=none:=fun b hb=>by
 rcases List.mem_cons.mp (I.stkSub b hb) with e|hb
 ·rw[e];exact I.free
 ·obtain ⟨_,o,ho,_⟩:=I.ok.funs.mem hb
  exact I.base.free b o ho (I.ok.frf b hb) fun z=>I.ok.exfs b z hb
theorem Inv.step{g':Array GenState}{t':Nat}{d':Drawn}{ch:List Addr}(I:Inv X pins σ H s)
  (hch:∀ b∈ch,(b∈X.ex\/X.s₀.heap.objs.size<=b)/\b≠X.env.locals/\(∀ x c,X.env.cells.lookup x=some c->c≠b)/\∀ p∈X.pn++pins,p.1≠b)
  (keep:∀ b o,b≠X.env.locals->b∉X.fs->b∉ch->s.heap.get? b=some o->H b=none->h'.get? b=some o)
  (slot:∀ b o,b≠X.env.locals->b∈X.fs->b∉ch->s.heap.get? b=some o->H b=none->∃ sl,h'.get? b=some {o with slots:=sl}) (free:∀ b o,b∉ch->s.heap.get? b=some o->H b=none->H' b=none)
  (there:∀ b o,b∉ch->s.heap.get? b=some o->∃ o',h'.get? b=some o')
  (tups:∀ b xs,H b=some (.tup xs)->H' b=some (.tup xs)) (frzs:∀ b o u,H b=some (.frz o u)->H' b=some (.frz o u)) (tbls:∀ b ps,H b=some (.tbl ps)->H' b=some (.tbl ps))
  (ns:∀ m,s.heap.Ns X.env.locals m->h'.Ns X.env.locals m) (hok:HOk X.prog X.w H' h') (hg:AllBare g') :
  Inv X pins σ H' {s with heap:=h',gens:=g',drawn:=d',toks:=t'}:=by
 have neL:∀ b o,X.s₀.heap.get? b=some o->b≠X.env.locals:=fun b o e=>Nat.ne_of_lt (Nat.lt_of_lt_of_le (Heap.lt_size e) I.ok.above)
 have neC:∀ b o,X.s₀.heap.get? b=some o->b∉X.ex->b∉ch:=fun b o e hx hb=>by
  rcases (hch b hb).1 with z|z
  ·exact hx z
  ·exact absurd (Nat.lt_of_lt_of_le (Heap.lt_size e) z) (Nat.lt_irrefl _)
 have cellK:∀ x c,X.env.cells.lookup x=some c->∀ v,s.heap.IsCell c v->h'.IsCell c v:=fun x c e v zz0=>by
  obtain ⟨o,ho,hd⟩:=zz0
  have nch:c∉ch:=fun z=>(hch c z).2.2.1 x c e rfl
  by_cases hc:c∈X.fs
  ·obtain ⟨sl,q⟩:=slot c o (I.cne x c e) hc nch ho (I.freeC x c e)
   exact ⟨_,q,hd⟩
  ·exact ⟨o,keep c o (I.cne x c e) hc nch ho (I.freeC x c e),hd⟩
 refine ⟨I.ok,I.os,hg,⟨fun b o e n hb hx=>?_,fun b o e n hb hx=>?_,fun b o e n hx=>?_,fun b o e hx=>?_,fun b xs e=>tups b xs (I.base.tups b xs e),fun b o xs e=>frzs b o xs (I.base.frzs b o xs e),fun b ps e=>?_⟩,?_,fun x c e=>?_,?_,fun x c e=>?_,fun p hp=>?_,hok,I.len⟩
 ·exact keep b o (neL b o e) hb (neC b o e hx) (I.base.keep b o e n hb hx) (I.base.free b o e n hx)
 ·obtain ⟨sl,e1⟩:=I.base.slot b o e n hb hx
  obtain ⟨sl',e2⟩:=slot b _ (neL b o e) hb (neC b o e hx) e1 (I.base.free b o e n hx)
  exact ⟨sl',e2⟩
 ·obtain ⟨o',e1⟩:=I.base.there b o e hx
  exact free b o' (neC b o e hx) e1 (I.base.free b o e n hx)
 ·obtain ⟨o',e1⟩:=I.base.there b o e hx
  exact there b o' (neC b o e hx) e1
 ·exact tbls b ps (I.base.tbls b ps e)
 ·obtain ⟨m,hn,hl⟩:=I.loc
  refine ⟨m,ns m hn,fun i x v e1 e2 e3=>?_⟩
  obtain ⟨u,r,l⟩:=hl i x v e1 e2 e3
  refine ⟨u,r,?_⟩
  rcases l with l|⟨k,c,e,z⟩
  ·exact .inl l
  ·exact .inr ⟨k,c,e,cellK x c e _ z⟩
 ·obtain ⟨v,z⟩:=I.cell x c e
  exact ⟨v,cellK x c e v z⟩
 ·obtain ⟨m,⟨o,_,_,ho,_⟩,_⟩:=I.loc
  exact free _ o (fun z=>(hch _ z).2.1 rfl) ho I.free
 ·obtain ⟨v,o,ho,hd⟩:=I.cell x c e
  exact free c o (fun z=>(hch c z).2.2.1 x c e rfl) ho (I.freeC x c e)
 ·obtain ⟨e,n,ne,nf,d⟩:=I.pin p hp
  have nch:p.1∉ch:=fun z=>(hch p.1 z).2.2.2 p hp rfl
  exact ⟨keep p.1 p.2 ne nf nch e n,free p.1 p.2 nch e n,ne,nf,d⟩
theorem Inv.un{t':Nat}(I:Inv X pins σ H s)(u:Un X.fs [] H H' s.heap h')(hok:HOk X.prog X.w H' h'):Inv X pins σ H' {s with heap:=h',toks:=t'}:=by
 obtain ⟨m,⟨o,es,ep,ho,r⟩,_⟩:=id I.loc
 obtain ⟨sl,hL⟩:=u.any ho I.free (by simp)
 exact I.step (g':=s.gens) (d':=s.drawn) (ch:=[]) (fun _ z=>nomatch z) (fun b o _ hb _ e n=>u.keep b o e n hb (by simp)) (fun b o _ hb _ e n=>u.slot b o e n hb (by simp)) (fun b o _ e n=>u.free b o e n (by simp)) (fun b o _ e=>u.there b o e (by simp)) u.tups u.frzs u.tbls (fun m' hm=>by
  obtain ⟨o',es',ep',ho',r'⟩:=hm
  rw[ho] at ho';cases ho'
  exact ⟨_,es',ep',hL,r'⟩) hok I.bare
theorem Inv.call{g':Array GenState}{t':Nat}{d':Drawn}{ch:List Addr}(I:Inv X pins σ H s)(u:Un (frs X.stack) ch H H' s.heap h')(hok:HOk X.prog X.w H' h')(hg:AllBare g')
  (hch:∀ b∈ch,(b∈X.ex\/X.s₀.heap.objs.size<=b)/\b≠X.env.locals/\(∀ x c,X.env.cells.lookup x=some c->c≠b)/\∀ p∈X.pn++pins,p.1≠b) :
  Inv X pins σ H' {s with heap:=h',gens:=g',drawn:=d',toks:=t'}:=by
 obtain ⟨m,⟨o,es,ep,ho,r⟩,_⟩:=id I.loc
 obtain ⟨sl,hL⟩:=u.any ho I.free fun z=>(hch _ z).2.1 rfl
 exact I.step (ch:=ch) hch (fun b o hL hb hc e n=>u.keep b o e n (fun z=>(List.mem_cons.mp (I.stkSub b z)).elim hL hb) hc) (fun b o _ _ hc e n=>u.any e n hc) (fun b o hc e n=>u.free b o e n hc) (fun b o hc e=>u.there b o e hc) u.tups u.frzs u.tbls (fun m' hm=>by
  obtain ⟨o',es',ep',ho',r'⟩:=hm
  rw[ho] at ho';cases ho'
  exact ⟨_,es',ep',hL,r'⟩) hok hg
theorem Inv.turned{t':Nat}{it:Addr}(I:Inv X pins σ H s)(k:∀ b o,b≠it->s.heap.get? b=some o->h'.get? b=some o)(hn:H it=none)(hL:it≠X.env.locals)
  (h1:it∈X.ex\/X.s₀.heap.objs.size<=it) (h2:∀ x c,X.env.cells.lookup x=some c->c≠it) (h3:∀ p∈X.pn++pins,p.1≠it):Inv X pins σ H {s with heap:=h',toks:=t'}:=by
 have nit:∀ b u,H b=some u->b≠it:=fun b u e z=>by rw[z,hn] at e;cases e
 refine I.step (g':=s.gens) (d':=s.drawn) (ch:=[it]) (fun b hb=>?_) (fun b o _ _ hc e _=>k b o (fun z=>hc (by simp[z])) e) (fun b o _ _ hc e _=>⟨o.slots,k b o (fun z=>hc (by simp[z])) e⟩) (fun _ _ _ _ n=>n)
  (fun b o hc e=>⟨o,k b o (fun z=>hc (by simp[z])) e⟩) (fun _ _ e=>e) (fun _ _ _ e=>e) (fun _ _ e=>e) (fun m hm=>?_) (fun b u e=>?_) I.bare
 ·have e:b=it:=by simpa using hb
  subst e
  exact ⟨h1,hL,h2,h3⟩
 ·obtain ⟨o,es,ep,ho,r⟩:=hm
  exact ⟨o,es,ep,k _ o (Ne.symm hL) ho,r⟩
 ·refine (I.hok b u e).stay (fun c v hc q=>k c v ?_ q) (fun _ q=>q) (fun _ _ q=>q) fun _ _ q=>q
  rcases hc with z|z
  · rw [z]; exact nit b u e
  · exact nit c _ z
theorem Inv.tok(I:Inv X pins σ H s)(t:Nat):Inv X pins σ H {s with toks:=t}:=I.un (h':=s.heap) (t':=t) Un.refl I.hok
theorem Inv.kept{t':Nat}(I:Inv X pins σ H s)(k:∀ b u,s.heap.get? b=some u->h'.get? b=some u):Inv X pins σ H {s with heap:=h',toks:=t'}:=I.un (Un.kept k) (I.hok.kept k)
theorem Inv.laid{a:Addr}{o:HO}{t':Nat}(I:Inv X pins σ H s)(k:∀ b u,s.heap.get? b=some u->h'.get? b=some u)(hp:s.heap.objs.size<=a)(new:cS X.prog X.w (upd H a o) h' a o) :
 Inv X pins σ (upd H a o) {s with heap:=h',toks:=t'}:=I.un (Un.laid k hp (I.hok.fresh hp)) (I.hok.laid k hp new)
theorem Inv.write{x e:Addr}{o:HO}{t':Nat}(I:Inv X pins σ H s)(mu:Mut (H x))(he:e=x\/H e=some (.own x))(k:∀ b u,b≠e->s.heap.get? b=some u->h'.get? b=some u)(heo:∃ u,h'.get? e=some u)
 (new:cS X.prog X.w (upd H x o) h' x o):Inv X pins σ (upd H x o) {s with heap:=h',toks:=t'}:=I.un (Un.write mu he k heo) (I.hok.write mu he k heo new)
theorem Inv.pins_of{pins':List (Addr×Obj)}(I:Inv X pins σ H s)(h:∀ p∈pins',s.heap.get? p.1=some p.2/\H p.1=none/\p.1≠X.env.locals/\p.1∉X.fs/\∀ v,p.2.data≠.cell v):Inv X pins' σ H s:=
 ⟨I.ok,I.os,I.bare,I.base,I.loc,I.cell,I.free,I.freeC,fun p hp=>(List.mem_append.mp hp).elim (fun z=>I.pin p (List.mem_append_left _ z)) (h p),I.hok,I.len⟩
theorem y8{N:List Str}(hN:N.Nodup){i j:Nat}{x:Str}(a:N[i]? = some x)(b:N[j]? = some x):i=j:=by
 obtain ⟨h1,e1⟩:=List.getElem?_eq_some_iff.mp a
 obtain ⟨h2,e2⟩:=List.getElem?_eq_some_iff.mp b
 exact (List.getElem_inj hN).mp (e1.trans e2.symm)
theorem w4{M:Model}{A:Around}{E:Value->Shared->Prop}{i:Nat}{x:Str}{v:V}{u:Value}{Q:Unit->Shared->Prop}(I:Inv X pins σ H s)(hN:X.N.Nodup)(hi:X.N[i]? = some x)(hx:Loc X.env.scope x)(r:bS v u)
  (h:∀ s',Inv X pins (σ.set i (some v)) H s'->(∃ a,Heap.SameBut a s.heap s'.heap/\(a=X.env.locals\/X.env.cells.lookup x=some a))->Q () s') (hf:X.fn x=true\/X.env.scope.names.lookup x=some .local):wpAny M A (storeName X.env x u) Q E s:=by
 obtain ⟨m,hn,hl⟩:=id I.loc
 have hcls:(X.env.scope.kind == .class || (X.env.scope.kind == .module && X.env.locals != X.env.globals))=false:=by rw[I.ok.kind];rfl
 have hiσ:i < σ.length:=by rw[I.len];exact (List.getElem?_eq_some_iff.mp hi).1
 have cne:=I.cne
 have tracked:∀ {a:Addr} {h':Heap},(∃ o,s.heap.get? a=some o/\H a=none)->Heap.SameBut a s.heap h'->HOk X.prog X.w H h':=fun {a h'} ha hs b ob e=>by
  obtain ⟨_,_,hfree⟩:=ha
  refine (I.hok b ob e).stay (fun c w' hc q=>(hs.2 c ?_).trans q) (fun _ q=>q) (fun _ _ q=>q) fun _ _ q=>q
  rintro rfl
  rcases hc with rfl|hc
  ·rw[hfree] at e;cases e
  ·rw[hfree] at hc;cases hc
 rcases hx with hk|hk
 ·refine wpAny_storeName_local hk hn (fun h' hn' hs=>?_) hcls
  obtain ⟨oL,_,_,hoL,_⟩:=id hn
  refine h _ ⟨I.ok,I.os,I.bare,⟨fun b o e n hb hx=>?_,fun b o e n hb hx=>?_,I.base.free,fun b o e hx=>?_,I.base.tups,I.base.frzs,I.base.tbls⟩,⟨_,hn',fun j y v' e1 e2 e3=>?_⟩,fun y c e=>?_,I.free,I.freeC,fun p hp=>?_,tracked ⟨oL,hoL,I.free⟩ hs,by simpa using I.len⟩ ⟨_,hs,.inl rfl⟩
  ·exact (hs.2 b (Nat.ne_of_lt (Nat.lt_of_lt_of_le (Heap.lt_size e) I.ok.above))).trans (I.base.keep b o e n hb hx)
  ·obtain ⟨sl,e1⟩:=I.base.slot b o e n hb hx
   exact ⟨sl,(hs.2 b (Nat.ne_of_lt (Nat.lt_of_lt_of_le (Heap.lt_size e) I.ok.above))).trans e1⟩
  ·obtain ⟨o',e1⟩:=I.base.there b o e hx
   exact ⟨o',(hs.2 b (Nat.ne_of_lt (Nat.lt_of_lt_of_le (Heap.lt_size e) I.ok.above))).trans e1⟩
  ·by_cases hj:j=i
   ·subst hj
    rw[hi] at e1;cases e1
    rw[List.getElem?_set_self hiσ] at e2
    cases e2
    exact ⟨u,r,.inl ⟨hk,by simp⟩⟩
   ·rw[List.getElem?_set_ne (Ne.symm hj)] at e2
    obtain ⟨u',r',q⟩:=hl j y v' e1 e2 e3
    refine ⟨u',r',?_⟩
    rcases q with ⟨k,e⟩|⟨k,c,e,z⟩
    ·refine .inl ⟨k,?_⟩
     have:y≠x:=fun e=>hj (y8 hN e1 (e▸hi))
     simp[this,e]
    ·exact .inr ⟨k,c,e,z.sameBut hs (cne y c e)⟩
  ·obtain ⟨w',z⟩:=I.cell y c e
   exact ⟨w',z.sameBut hs (cne y c e)⟩
  ·obtain ⟨e,n,ne,nf,d⟩:=I.pin p hp
   exact ⟨(hs.2 p.1 ne).trans e,n,ne,nf,d⟩
 ·have hfn:X.fn x=true:=by
   rcases hf with z|z
   ·exact z
   ·rw[z] at hk;cases hk
  obtain ⟨c,hc⟩:=I.ok.has x (.inl hk)
  obtain ⟨w',z⟩:=I.cell x c hc
  refine wpAny_storeName_cell I.ok.kind hk hc z (fun h' hc' hs=>?_)
  obtain ⟨oc,hoc,hocd⟩:=id z
  refine h {s with heap:=h'} ⟨I.ok,I.os,I.bare,⟨fun b o e n hb hx=>?_,fun b o e n hb hx=>?_,I.base.free,fun b o e hx=>?_,I.base.tups,I.base.frzs,I.base.tbls⟩,⟨m,hn.sameBut hs (Ne.symm (cne x c hc)),fun j y v' e1 e2 e3=>?_⟩,fun y c' e=>?_,I.free,I.freeC,fun p hp=>?_,tracked ⟨oc,hoc,I.freeC x c hc⟩ hs,by simpa using I.len⟩ ⟨c,hs,.inr hc⟩
  ·exact (hs.2 b (Nat.ne_of_lt (Nat.lt_of_lt_of_le (Heap.lt_size e) (I.ok.cab x c hfn hc)))).trans (I.base.keep b o e n hb hx)
  ·obtain ⟨sl,e1⟩:=I.base.slot b o e n hb hx
   exact ⟨sl,(hs.2 b (Nat.ne_of_lt (Nat.lt_of_lt_of_le (Heap.lt_size e) (I.ok.cab x c hfn hc)))).trans e1⟩
  ·obtain ⟨o',e1⟩:=I.base.there b o e hx
   exact ⟨o',(hs.2 b (Nat.ne_of_lt (Nat.lt_of_lt_of_le (Heap.lt_size e) (I.ok.cab x c hfn hc)))).trans e1⟩
  ·by_cases hj:j=i
   ·subst hj
    rw[hi] at e1;cases e1
    rw[List.getElem?_set_self hiσ] at e2
    cases e2
    exact ⟨u,r,.inr ⟨.inl hk,c,hc,hc'⟩⟩
   ·rw[List.getElem?_set_ne (Ne.symm hj)] at e2
    obtain ⟨u',r',q⟩:=hl j y v' e1 e2 e3
    refine ⟨u',r',?_⟩
    rcases q with q|⟨k,c',e,z'⟩
    ·exact .inl q
    ·refine .inr ⟨k,c',e,z'.sameBut hs ?_⟩
     rintro rfl
     exact hj (y8 hN e1 (I.ok.inj _ _ _ e hc▸hi))
  ·by_cases hcc:c'=c
   ·subst hcc;exact ⟨_,hc'⟩
   ·obtain ⟨w2,z2⟩:=I.cell y c' e
    exact ⟨w2,z2.sameBut hs hcc⟩
  ·obtain ⟨e,n,ne,nf,d⟩:=I.pin p hp
   refine ⟨(hs.2 p.1 ?_).trans e,n,ne,nf,d⟩
   intro q
   rw[q,hoc] at e
   have q':oc=p.2:=Option.some.inj e
   exact d w' (by rw[<-q'];exact hocd)
theorem y9{M:Model}{A:Around}{E:Value->Shared->Prop}{i:Nat}{x:Str}{v:V}{u:Value}{Q:Unit->Shared->Prop}(I:Inv X pins σ H s)(hN:X.N.Nodup)(hi:X.N[i]? = some x)(hx:Loc X.env.scope x)(r:bS v u)
  (h:∀ s',Inv X pins (σ.set i (some v)) H s'->Q () s') (hf:X.fn x=true\/X.env.scope.names.lookup x=some .local):wpAny M A (storeName X.env x u) Q E s:=
 w4 I hN hi hx r (fun s' I' _=>h s' I') hf
theorem Inv.call'{s':Shared}{ch:List Addr}(I:Inv X pins σ H s)(ho:s'.os=s.os)(u:Un (frs X.stack) ch H H' s.heap s'.heap)(hok:HOk X.prog X.w H' s'.heap)(hg:AllBare s'.gens)
  (hch:∀ b∈ch,(b∈X.ex\/X.s₀.heap.objs.size<=b)/\b≠X.env.locals/\(∀ x c,X.env.cells.lookup x=some c->c≠b)/\∀ p∈X.pn++pins,p.1≠b):Inv X pins σ H' s':=by
 obtain ⟨h',g',d',t',o'⟩:=s'
 have e:o'=s.os:=ho
 subst e
 exact I.call (g':=g') (t':=t') (d':=d') u hok hg hch
end
abbrev XK:=Value->Option Addr->Hp->Prop
abbrev St:=List (Option V)
abbrev VK:=V->Hp->Prop
abbrev TE:=St->Hp->VK->Prop
abbrev TT:=St->Hp->(Bool->Hp->Prop)->Prop
abbrev TA:=St->Hp->(List V->Hp->Prop)->Prop
structure iD where
 nx:St->Hp->Prop
 rt:VK
 bk:St->Hp->Prop:=fun _ _=>False
 ct:St->Hp->Prop:=fun _ _=>False
abbrev TS:=iD->St->Hp->Prop
def EP(X:Cx)(pins:List (Addr×Obj))(σ:St)(Q:VK)(u:Value)(s':Shared):Prop:=∃ v H',Inv X pins σ H' s'/\bS v u/\Q v H'
def TP(X:Cx)(pins:List (Addr×Obj))(σ:St)(Q:Bool->Hp->Prop)(b:Bool)(s':Shared):Prop:=∃ H',Inv X pins σ H' s'/\Q b H'
def AP(X:Cx)(pins:List (Addr×Obj))(σ:St)(Q:List V->Hp->Prop)(us:List Value)(s':Shared):Prop:=∃ vs H',Inv X pins σ H' s'/\bJ vs us/\Q vs H'
def SP(X:Cx)(pins:List (Addr×Obj))(D:iD)(f:Flow)(s':Shared):Prop:=
 match f with
 | .next=>∃ σ' H',Inv X pins σ' H' s'/\D.nx σ' H'
 | .brk=>∃ σ' H',Inv X pins σ' H' s'/\D.bk σ' H'
 | .cont=>∃ σ' H',Inv X pins σ' H' s'/\D.ct σ' H'
 | .ret u=>∃ v σ' H',Inv X pins σ' H' s'/\bS v u/\D.rt v H'
def PE(X:Cx)(e:Expr)(t:TE):Prop:=
 ∀ (pins:List (Addr×Obj)) (s:Shared) (σ:St) (H:Hp) (Q:VK),Inv X pins σ H s->t σ H Q->wpAny (model X.prog X.w) X.A (eval e X.env) (EP X pins σ Q) X.xe s
def PT(X:Cx)(e:Expr)(t:TT):Prop:=
 ∀ (pins:List (Addr×Obj)) (s:Shared) (σ:St) (H:Hp) (Q:Bool->Hp->Prop),Inv X pins σ H s->t σ H Q->wpAny (model X.prog X.w) X.A (isTrue e X.env (eval e X.env)) (TP X pins σ Q) X.xe s
def PW(X:Cx)(e:Expr)(t:TT):Prop:=
 ∀ (whole:Sem Value) (pins:List (Addr×Obj)) (s:Shared) (σ:St) (H:Hp) (Q:Bool->Hp->Prop),Inv X pins σ H s->t σ H Q->wpAny (model X.prog X.w) X.A (isTrue e X.env whole) (TP X pins σ Q) X.xe s
theorem PW.pt{X:Cx}{e:Expr}{t:TT}(h:PW X e t):PT X e t:=h _
def PA(X:Cx)(es:List Expr)(t:TA):Prop:=
 ∀ (pos:Pos) (pins:List (Addr×Obj)) (s:Shared) (σ:St) (H:Hp) (Q:List V->Hp->Prop),Inv X pins σ H s->t σ H Q->wpAny (model X.prog X.w) X.A (spliced (backTo pos (starEach es X.env))) (AP X pins σ Q) X.xe s
def PS(X:Cx)(st:Stmt)(t:TS):Prop:=
 ∀ (pins:List (Addr×Obj)) (s:Shared) (σ:St) (H:Hp) (D:iD),Inv X pins σ H s->t D σ H->wpAny (model X.prog X.w) X.A (exec st X.env) (SP X pins D) X.xe s
def PSs(X:Cx)(st:List Stmt)(t:TS):Prop:=
 ∀ (pins:List (Addr×Obj)) (s:Shared) (σ:St) (H:Hp) (D:iD),Inv X pins σ H s->t D σ H->wpAny (model X.prog X.w) X.A (execs st X.env) (SP X pins D) X.xe s
theorem thn{α:Type}{t:Sem α}{Q Q':α->Shared->Prop}{M:Model}{A:Around}{E:Value->Shared->Prop}{s:Shared}(h:wpAny M A t Q E s)(hQ:∀ a s,Q a s->Q' a s):wpAny M A t Q' E s:=wpAny_mono h hQ fun _ _ x=>x
end L2
namespace L2
open PySem PySem.Spec PyProof.Rows
section
variable{X:Cx}
def gF(i:Nat):TE:=fun σ H Q=>∃ v,σ[i]? = some (some v)/\Q v H
def tC(v:V):TE:=fun _ H Q=>Q v H
theorem aLX{i:Nat}{x:Str}{pos:Pos}(hN:X.N[i]? = some x)(hv:Vis X.env.scope x)(hd:(x == ("__debug__":Str))=false:=by decide)(hcd:(x == ("__classdict__":Str))=false:=by decide):PE X (.Name x pos) (gF i):=by
 intro pins s σ H Q I h
 obtain ⟨v,e,h⟩:=h
 obtain ⟨m,hn,hl⟩:=I.loc
 obtain ⟨u,r,l⟩:=hl i x v hN e hv
 have fin:EP X pins σ Q u s:=⟨v,H,I,r,h⟩
 rcases l with ⟨hk,hm⟩|⟨hk,c,hc,hcell⟩
 ·exact wpAny_Name (wpAny_loadName_local I.ok.kind hk hn hm fin) hd
 ·rcases hk with hk|hk
  · exact wpAny_Name (wpAny_loadName_cell I.ok.kind hk hc hcell fin) hd
  · exact wpAny_Name (wpAny_loadName_free I.ok.kind hk hc hcell fin hcd) hd
theorem aLY{i j pos}:PE X (.Constant (.int i) j pos) (tC (.int i)):=fun _ _ _ H _ I h=>wpAny_Constant_int ⟨.int i,H,I.tok _,⟨_,rfl⟩,h⟩
theorem aOD{b j pos}:PE X (.Constant (.bool b) j pos) (tC (.bl b)):=fun _ _ _ H _ I h=>Constant_bool ⟨.bl b,H,I,rfl,h⟩
theorem aLZ{j pos}:PE X (.Constant .none j pos) (tC .non):=fun _ _ _ H _ I h=>Constant_none ⟨.non,H,I,rfl,h⟩
theorem aL0{x j pos}:PE X (.Constant (.str x) j pos) (tC (.str x)):=fun _ _ _ H _ I h=>Calls.Constant_str ⟨.str x,H,I.tok _,⟨_,rfl⟩,h⟩
def Gl(X:Cx)(x:Str):Prop:=X.env.kindOf x=some .globalImplicit
theorem rM{E:Value->Shared->Prop}{pins:List (Addr×Obj)}{s:Shared}{σ:St}{H:Hp}{x:Str}{u:Value}{pos:Pos}{Q:Value->Shared->Prop}(I:Inv X pins σ H s)(hg:Gl X x)(hm:X.mg x=some u)(h:Q u s)
  (hd:(x == ("__debug__":Str))=false:=by decide):wpAny (model X.prog X.w) X.A (eval (.Name x pos) X.env) Q E s:=
 Calls.Name_function_global I.ok.kind hg (Calls.loadGlobal_global (by rw[I.ok.glob];exact I.mod.glob.keeps I.bk) hm h) hd
theorem lL{E:Value->Shared->Prop}{pins:List (Addr×Obj)}{s:Shared}{σ:St}{H:Hp}{x:Str}{u:Value}{pos:Pos}{Q:Value->Shared->Prop}(I:Inv X pins σ H s)(hg:Gl X x)(hm:X.mg x=none)(hv:bootBuiltins x=some u)(h:Q u s)
  (hn:x≠"__name__":=by decide) (hd:(x == ("__debug__":Str))=false:=by decide):wpAny (model X.prog X.w) X.A (eval (.Name x pos) X.env) Q E s:=by
 obtain ⟨mb,h1,h2⟩:=I.mod.blt
 exact Calls.Name_function_global I.ok.kind hg (Calls.loadGlobal_builtin (by rw[I.ok.glob];exact I.mod.glob.keeps I.bk) hm (by rw[I.ok.blt];exact h1.keeps I.bk) ((h2 x hn).trans hv) h) hd
theorem kP{x:Str}{v:V}{u:Value}{pos:Pos}(hg:Gl X x)(hm:X.mg x=some u)(r:bS v u)(hd:(x == ("__debug__":Str))=false:=by decide):PE X (.Name x pos) (tC v):=
 fun _ _ _ H _ I h=>rM I hg hm ⟨v,H,I,r,h⟩ hd
theorem vP{x:Str}{v:V}{u:Value}{pos:Pos}(hg:Gl X x)(hm:X.mg x=none)(hv:bootBuiltins x=some u)(r:bS v u)(hn:x≠"__name__":=by decide)(hd:(x == ("__debug__":Str))=false:=by decide):PE X (.Name x pos) (tC v):=
 fun _ _ _ H _ I h=>lL I hg hm hv ⟨v,H,I,r,h⟩ hn hd
variable{a b:Expr}{ta tb:TE}{pos:Pos}
def PC(X:Cx)(op:CmpOp)(a b:Expr)(t:TE):Prop:=
 ∀ (pins:List (Addr×Obj)) (s:Shared) (σ:St) (H:Hp) (Q:VK),Inv X pins σ H s->t σ H Q->
  wpAny (model X.prog X.w) X.A (eval a X.env) (fun v s₁=>wpAny (model X.prog X.w) X.A (eval b X.env) (fun u s₂=>wpAny (model X.prog X.w) X.A (compareOp op v u) (EP X pins σ Q) X.xe s₂) X.xe s₁) X.xe s
theorem aGS(b:Expr){op:CmpOp}(h:op≠.In)(h2:op≠.NotIn):behindInMarks op b=false:=by
 have e1:(op == CmpOp.In)=false:=by cases op<;>first|rfl|exact absurd rfl h
 have e2:(op == CmpOp.NotIn)=false:=by cases op<;>first|rfl|exact absurd rfl h2
 cases b<;>simp[behindInMarks,e1,e2]
def tB(t:TE):TT:=fun σ H Q=>t σ H fun x H1=>∃ c,x=.bl c/\Q c H1
theorem bV{op:CmpOp}{t:TE}(h:PC X op a b t)(h1:behindInMarks op b=false:=by first|exact aGS _ (by decide) (by decide)|rfl):PT X (.Compare a [op] [b] pos) (tB t):=by
 intro pins s σ H Q I hw
 refine wpAny_isTrue_Compare1 (thn (h pins s σ H _ I hw) fun v s1 h1=>thn h1 fun u s2 h2=>thn h2 fun c s3 zz0=>?_) h1
 obtain ⟨x,H1,I1,r1,q1⟩:=zz0
 obtain ⟨d,rfl,q⟩:=q1
 cases r1
 exact wpAny_truthy_bool ⟨H1,I1,q⟩
theorem oC{e:Expr}{t:TE}(h:PE X e t)(he:∀ whole,isTrue e X.env whole=(do let v <-whole;standAt e.pos;holding [v] (truthy v)):=by intro _;rfl):PT X e (tB t):=by
 intro pins s σ H Q I hw
 refine isTrue_plain (thn (h pins s σ H _ I hw) fun v s1 zz0=>?_) (he _)
 obtain ⟨x,H1,I1,r1,q1⟩:=zz0
 obtain ⟨d,rfl,q⟩:=q1
 cases r1
 exact wpAny_truthy_bool ⟨H1,I1,q⟩
variable{tA tB':TT}{rest:List Expr}
def aL1(t u:TT):TT:=fun σ H Q=>t σ H fun c H1=>if c=true then u σ H1 Q else Q false H1
def tOr(t u:TT):TT:=fun σ H Q=>t σ H fun c H1=>if c=true then Q true H1 else u σ H1 Q
def aPK(t:TT):TT:=fun σ H Q=>t σ H fun c H1=>Q (!c) H1
theorem kQ(ha:PT X a tA):PW X (.BoolOp .And [a] pos) tA:=by
 intro wh pins s σ H Q I h
 refine isTrue_and (thn (ha pins s σ H Q I h) fun c s1 e=>?_)
 cases c with
 | true=>exact isTrue_and_nil e
 | false=>exact e
theorem zA(ha:PT X a tA):PW X (.BoolOp .Or [a] pos) tA:=by
 intro wh pins s σ H Q I h
 refine isTrue_or (thn (ha pins s σ H Q I h) fun c s1 e=>?_)
 cases c with
 | false=>exact isTrue_or_nil e
 | true=>exact e
theorem lM(ha:PT X a tA)(hb:PW X (.BoolOp .And (b::rest) pos) tB'):PW X (.BoolOp .And (a::b::rest) pos) (aL1 tA tB'):=by
 intro wh pins s σ H Q I h
 refine isTrue_and (thn (ha pins s σ H _ I h) fun c s1 zz0=>?_)
 obtain ⟨H1,I1,q1⟩:=zz0
 cases c with
 | true=>exact hb wh pins s1 σ H1 Q I1 q1
 | false=>exact ⟨H1,I1,q1⟩
theorem aDA(ha:PT X a tA)(hb:PW X (.BoolOp .Or (b::rest) pos) tB'):PW X (.BoolOp .Or (a::b::rest) pos) (tOr tA tB'):=by
 intro wh pins s σ H Q I h
 refine isTrue_or (thn (ha pins s σ H _ I h) fun c s1 zz0=>?_)
 obtain ⟨H1,I1,q1⟩:=zz0
 cases c with
 | true=>exact ⟨H1,I1,q1⟩
 | false=>exact hb wh pins s1 σ H1 Q I1 q1
theorem t5(ha:PT X a tA):PT X (.UnaryOp .Not a pos) (aPK tA):=by
 intro pins s σ H Q I h
 exact isTrue_not (ha pins s σ H (fun c H1=>Q (!c) H1) I h)
def aOE(ta tb:TE):TE:=fun σ H Q=>ta σ H fun x H1=>∃ c,x=.bl c/\if c=true then tb σ H1 Q else Q (.bl false) H1
theorem aL2{op}{t:TE}(h:PE X a t):PE X (.BoolOp op [a] pos) t:=fun pins s σ H Q I hw=>BoolOp_one (h pins s σ H Q I hw)
theorem aL3(ha:PE X a ta)(hb:PE X (.BoolOp .And (b::rest) pos) tb):PE X (.BoolOp .And (a::b::rest) pos) (aOE ta tb):=by
 intro pins s σ H Q I h
 refine BoolOp_and (thn (ha pins s σ H _ I h) fun v s1 zz0=>?_)
 obtain ⟨x,H1,I1,r1,q1⟩:=zz0
 obtain ⟨c,rfl,q1⟩:=q1
 cases r1
 refine wpAny_truthy_bool ?_
 cases c with
 | true=>exact hb pins s1 σ H1 Q I1 q1
 | false=>exact ⟨.bl false,H1,I1,rfl,q1⟩
def tIf(t:TT)(ta tb:TE):TE:=fun σ H Q=>t σ H fun c H1=>if c=true then ta σ H1 Q else tb σ H1 Q
theorem aGT{c:Expr}(hc:PT X c tA)(ha:PE X a ta)(hb:PE X b tb):PE X (.IfExp c a b pos) (tIf tA ta tb):=by
 intro pins s σ H Q I h
 refine wpAny_IfExp (thn (hc pins s σ H _ I h) fun d s1 zz0=>?_)
 obtain ⟨H1,I1,q1⟩:=zz0
 cases d with
 | true=>exact ha pins s1 σ H1 Q I1 q1
 | false=>exact hb pins s1 σ H1 Q I1 q1
end
end L2
namespace L2
open PySem PySem.Spec PyProof.Rows
def SqL(K:Frag)(H:Hp)(a:Addr)(xs:List V):Prop:=
 Rd H a (.lst xs) \/
  ∃ (o:Obj) (its:Array Value) (n:Nat),K.lookup a=some o/\o.cls=.type "list"/\o.dict=none/\o.data=.seq its n/\its.size<=sizeLine/\bJ xs its.toList
def SqT(K:Frag)(H:Hp)(a:Addr)(xs:List V):Prop:=
 Rd H a (.tup xs) \/
  ∃ (o:Obj) (its:Array Value) (n:Nat),K.lookup a=some o/\o.cls=.type "tuple"/\o.data=.seq its n/\its.size<=sizeLine/\bJ xs its.toList
noncomputable def aPL:Value->Option V
 | .none=>some .non
 | .bool b=>some (.bl b)
 | .int i _=>some (.int i)
 | .str x _=>some (.str x)
 | .bytes b _=>some (.byt b)
 | .float b _=>some (.flt b)
 | .ref a=>some (.ref a)
 | .type n=>some (.ty n)
 | _=>none
theorem bS.abs{x:V}{u:Value}(r:bS x u):aPL u=some x:=by
 cases x with
 | non=>cases r;rfl
 | bl _=>cases r;rfl
 | int _=>obtain ⟨t,rfl⟩:=r;rfl
 | str _=>obtain ⟨t,rfl⟩:=r;rfl
 | byt _=>obtain ⟨t,rfl⟩:=r;rfl
 | flt _=>obtain ⟨t,rfl⟩:=r;rfl
 | ref _=>cases r;rfl
 | ty _=>cases r;rfl
theorem bS.inj{x y:V}{u:Value}(r:bS x u)(q:bS y u):x=y:=Option.some.inj (r.abs.symm.trans q.abs)
theorem bJ.inj:∀ {xs ys:List V} {us:List Value},bJ xs us->bJ ys us->xs=ys
 | _,_,_,.nil,.nil=>rfl
 | _,_,_,.cons r t,.cons r' t'=>by rw[r.inj r',bJ.inj t t']
section
variable{X:Cx}{pins:List (Addr×Obj)}{σ:St}{H:Hp}{s:Shared}{a:Addr}{xs ys:List V}
theorem SqL.of{K:Frag}(h:H a=some (.lst xs)):SqL K H a xs:=.inl (.inl h)
theorem SqT.of{K:Frag}(h:H a=some (.tup xs)):SqT K H a xs:=.inl (.inl h)
theorem Inv.list(I:Inv X pins σ H s)(h:SqL X.K H a xs):∃ its:List Value,bJ xs its/\PlainL s.heap a its.toArray/\xs.length<=sizeLine:=by
 rcases h with h|⟨o,its,n,hk,hc,hd,hs,hz,r⟩
 ·obtain ⟨z,its,n,r,e⟩:=h.ok I.hok
  exact ⟨its,r,⟨_,n,e,rfl,rfl,rfl⟩,z⟩
 ·refine ⟨its.toList,r,⟨o,n,I.kIn a o hk,hc,hd,by simpa using hs⟩,?_⟩
  have e:=r.length
  simp only[Array.length_toList] at e
  omega
theorem Inv.tuple(I:Inv X pins σ H s)(h:SqT X.K H a xs):∃ its:List Value,bJ xs its/\IsTup s.heap a its.toArray/\xs.length<=sizeLine:=by
 rcases h with h|⟨o,its,n,hk,hc,hs,hz,r⟩
 ·obtain ⟨z,its,r,p⟩:=h.ok I.hok
  exact ⟨its,r,p,z⟩
 ·refine ⟨its.toList,r,⟨o,I.kIn a o hk,hc,n,by simpa using hs⟩,?_⟩
  have e:=r.length
  simp only[Array.length_toList] at e
  omega
theorem Inv.list_inj(I:Inv X pins σ H s)(h:SqL X.K H a xs)(h':SqL X.K H a ys):xs=ys:=by
 obtain ⟨its,r,⟨o,n,e,_,_,d⟩,_⟩:=I.list h
 obtain ⟨its',r',⟨o',n',e',_,_,d'⟩,_⟩:=I.list h'
 rw[e] at e';cases e'
 rw[d] at d'
 injection d' with d1 _
 have:its=its':=by simpa using congrArg Array.toList d1
 subst this
 exact r.inj r'
theorem Inv.tuple_inj(I:Inv X pins σ H s)(h:SqT X.K H a xs)(h':SqT X.K H a ys):xs=ys:=by
 obtain ⟨its,r,⟨o,e,_,n,d⟩,_⟩:=I.tuple h
 obtain ⟨its',r',⟨o',e',_,n',d'⟩,_⟩:=I.tuple h'
 rw[e] at e';cases e'
 rw[d] at d'
 injection d' with d1 _
 have:its=its':=by simpa using congrArg Array.toList d1
 subst this
 exact r.inj r'
end
abbrev Cx.wish(X:Cx)(E:Value->Shared->Prop):Cx:={X with xe:=E}
abbrev Cx.nox(X:Cx):Cx:=X.wish fun _ _=>False
theorem Cx.Ok.wish{X:Cx}(ok:X.Ok)(E:Value->Shared->Prop):(X.wish E).Ok:=
 ⟨ok.mod,ok.kind,ok.glob,ok.blt,ok.above,ok.inj,ok.has,ok.cab,ok.hd,ok.frames,ok.stk,ok.exf,ok.bs,ok.bsz,ok.noex,ok.exfs,ok.funs,ok.frf⟩
theorem Cx.Ok.unwish{X:Cx}{E:Value->Shared->Prop}(ok:(X.wish E).Ok):X.Ok:=
 ⟨ok.mod,ok.kind,ok.glob,ok.blt,ok.above,ok.inj,ok.has,ok.cab,ok.hd,ok.frames,ok.stk,ok.exf,ok.bs,ok.bsz,ok.noex,ok.exfs,ok.funs,ok.frf⟩
section
variable{X:Cx}{pins:List (Addr×Obj)}{σ:St}{H:Hp}{s:Shared}{E:Value->Shared->Prop}
theorem Inv.wish(I:Inv X pins σ H s)(E:Value->Shared->Prop):Inv (X.wish E) pins σ H s:=⟨I.ok.wish E,I.os,I.bare,I.base,I.loc,I.cell,I.free,I.freeC,I.pin,I.hok,I.len⟩
theorem Inv.unwish(I:Inv (X.wish E) pins σ H s):Inv X pins σ H s:=⟨I.ok.unwish,I.os,I.bare,I.base,I.loc,I.cell,I.free,I.freeC,I.pin,I.hok,I.len⟩
theorem SP.unwish{D:iD}{f:Flow}{s':Shared}(h:SP (X.wish E) pins D f s'):SP X pins D f s':=by
 cases f with
 | next=>obtain ⟨σ',H',I,q⟩:=h;exact ⟨σ',H',I.unwish,q⟩
 | brk=>obtain ⟨σ',H',I,q⟩:=h;exact ⟨σ',H',I.unwish,q⟩
 | cont=>obtain ⟨σ',H',I,q⟩:=h;exact ⟨σ',H',I.unwish,q⟩
 | ret u=>obtain ⟨v,σ',H',I,r,q⟩:=h;exact ⟨v,σ',H',I.unwish,r,q⟩
theorem PE.nox{e:Expr}{t:TE}(h:PE X.nox e t):PE X e t:=fun pins s σ H Q I hw=>
 wpAny_mono (h pins s σ H Q (I.wish _) hw) (fun _ _ ⟨v,H',I',r,q⟩=>⟨v,H',I'.unwish,r,q⟩) fun _ _ z=>False.elim z
theorem PT.nox{e:Expr}{t:TT}(h:PT X.nox e t):PT X e t:=fun pins s σ H Q I hw=>
 wpAny_mono (h pins s σ H Q (I.wish _) hw) (fun _ _ ⟨H',I',q⟩=>⟨H',I'.unwish,q⟩) fun _ _ z=>False.elim z
theorem PSs.nox{st:List Stmt}{t:TS}(h:PSs X.nox st t):PSs X st t:=fun pins s σ H D I hw=>
 wpAny_mono (h pins s σ H D (I.wish _) hw) (fun _ _ q=>q.unwish) fun _ _ z=>False.elim z
end
section
variable{X:Cx}{st:Stmt}{rest:List Stmt}{t u:TS}{e:Expr}{te:TE}{pos:Pos}
def aOF:TS:=fun D σ H=>D.nx σ H
def aPM(t u:TS):TS:=fun D σ H=>t {D with nx:=u D} σ H
theorem cK:PSs X [] aOF:=fun _ _ σ H _ I h=>wpAny_execs_nil ⟨σ,H,I,h⟩
theorem aF(h1:PS X st t)(h2:PSs X rest u):PSs X (st::rest) (aPM t u):=by
 intro pins s σ H D I h
 refine wpAny_execs_cons (thn (h1 pins s σ H {D with nx:=u D} I h) fun f s1 q=>?_)
 cases f with
 | next=>
  obtain ⟨σ',H',I',q⟩:=q
  exact h2 pins s1 σ' H' D I' q
 | ret v=>exact q
 | brk=>exact q
 | cont=>exact q
theorem aS(h1:PS X st t):PSs X [st] t:=by
 intro pins s σ H D I h
 refine wpAny_execs_cons (thn (h1 pins s σ H D I h) fun f s1 q=>?_)
 cases f with
 | next=>exact wpAny_execs_nil q
 | ret v=>exact q
 | brk=>exact q
 | cont=>exact q
theorem Inv.quiet{pins:List (Addr×Obj)}{σ:St}{H:Hp}{s:Shared}(I:Inv X pins σ H s):interactive X.env=false:=by simp[interactive,I.ok.kind]
def oX(te:TE):TS:=fun D σ H=>te σ H fun _ H1=>D.nx σ H1
theorem dO(he:PE X e te)(hs:swapsWith e none pos.line X.env=pure false:=by rfl):PS X (.Expr e pos) (oX te):=by
 intro pins s σ H D I h
 exact wpAny_Expr_any (thn (he pins s σ H _ I h) fun v s1 ⟨x,H1,I1,r1,q1⟩=>⟨σ,H1,I1,q1⟩) I.quiet hs
def aPN(te:TE):TS:=fun D σ H=>te σ H D.rt
theorem bK(he:PE X e te):PS X (.Return (some e) pos) (aPN te):=by
 intro pins s σ H D I h
 exact wpAny_Return_some (thn (he pins s σ H _ I h) fun v s1 ⟨x,H1,I1,r1,q1⟩=>⟨x,σ,H1,I1,r1,q1⟩)
def aPO(c:TT)(t u:TS):TS:=fun D σ H=>c σ H fun b H1=>if b=true then t D σ H1 else u D σ H1
theorem dJ{c:Expr}{a b:List Stmt}{tc:TT}(hc:PT X c tc)(ha:PSs X a t)(hb:PSs X b u):PS X (.If c a b pos) (aPO tc t u):=by
 intro pins s σ H D I h
 refine wpAny_If (thn (hc pins s σ H _ I h) fun d s1 zz0=>?_)
 obtain ⟨H1,I1,q1⟩:=zz0
 cases d with
 | true=>exact ha pins s1 σ H1 D I1 q1
 | false=>exact hb pins s1 σ H1 D I1 q1
end
abbrev TG:=V->St->Hp->(St->Hp->Prop)->Prop
abbrev TGs:=List V->St->Hp->(St->Hp->Prop)->Prop
def PG(X:Cx)(target:Expr)(t:TG):Prop:=
 ∀ (pins:List (Addr×Obj)) (s:Shared) (σ:St) (H:Hp) (v:V) (u:Value) (Q:St->Hp->Prop),Inv X pins σ H s->bS v u->t v σ H Q->
  wpAny (model X.prog X.w) X.A (assign target X.env u) (fun _ s'=>∃ σ' H',Inv X pins σ' H' s'/\Q σ' H') X.xe s
def PGs(X:Cx)(ts:List Expr)(t:TGs):Prop:=
 ∀ (pins:List (Addr×Obj)) (s:Shared) (σ:St) (H:Hp) (vs:List V) (us:List Value) (Q:St->Hp->Prop),Inv X pins σ H s->bJ vs us->t vs σ H Q->
  wpAny (model X.prog X.w) X.A (assignInOrder ((assignEach ts X.env).map (·.2)) us) (fun _ s'=>∃ σ' H',Inv X pins σ' H' s'/\Q σ' H') X.xe s
abbrev aDB:=V->V->V->Hp->(Hp->Prop)->Prop
def aGU(X:Cx)(t:aDB):Prop:=
 ∀ (pins:List (Addr×Obj)) (s:Shared) (σ:St) (H:Hp) (o i v:V) (ov iv u:Value) (Q:Hp->Prop),Inv X pins σ H s->bS o ov->bS i iv->bS v u->t o i v H Q->
  wpAny (model X.prog X.w) X.A (setItem ov iv u) (fun _ s'=>∃ H',Inv X pins σ H' s'/\Q H') X.xe s
section
variable{X:Cx}{pos:Pos}
def jN(i:Nat):TG:=fun v σ H Q=>Q (σ.set i (some v)) H
theorem cJ{i:Nat}{x:Str}(hN:X.N.Nodup)(hi:X.N[i]? = some x)(hx:Loc X.env.scope x)(hf:X.fn x=true\/X.env.scope.names.lookup x=some .local:=by first|exact .inl rfl|exact .inr rfl):PG X (.Name x pos) (jN i):=by
 intro pins s σ H v u Q I r h
 exact wpAny_assign_Name (y9 I hN hi hx r (fun s' I'=>⟨_,H,I',h⟩) hf)
def aDC:TGs:=fun vs σ H Q=>vs=[]/\Q σ H
def yP(t:TG)(u:TGs):TGs:=fun vs σ H Q=>∃ v r,vs=v::r/\t v σ H fun σ' H'=>u r σ' H' Q
theorem iR:PGs X [] aDC:=by
 intro pins s σ H vs us Q I r h
 obtain ⟨e,h⟩:=h
 subst e
 cases r
 exact assignInOrder_nil ⟨σ,H,I,h⟩
theorem dF{e:Expr}{es:List Expr}{t:TG}{u:TGs}(h1:PG X e t)(h2:PGs X es u)
  (hs:(assignEach (e::es) X.env).map (·.2)=assign e X.env::(assignEach es X.env).map (·.2):=by rfl):PGs X (e::es) (yP t u):=by
 intro pins s σ H vs us Q I r h
 obtain ⟨v,vr,e1,h⟩:=h
 subst e1
 cases r with
 | cons r rr=>
  rw[hs]
  refine assignInOrder_cons (thn (h1 pins s σ H _ _ _ I r h) fun _ s1 zz0=>?_)
  obtain ⟨σ1,H1,I1,q1⟩:=zz0
  exact h2 pins s1 σ1 H1 _ _ Q I1 rr q1
def aGV(K:Frag)(n:Nat)(t:TGs):TG:=fun v σ H Q=>∃ a xs,v=.ref a/\SqT K H a xs/\xs.length=n/\t xs σ H Q
theorem j7{es:List Expr}{k:Nat}{t:TGs}{n:Nat}(hc:X.calm=true)(h:PGs X es t)
  (hn:(assignEach es X.env).length=n:=by rfl) (hst:(assignEach es X.env).findIdx? (·.1)=none:=by rfl):PG X (.Tuple es k pos) (aGV X.K n t):=by
 intro pins s σ H v u Q I r hw
 obtain ⟨a,xs,e1,hq,hl,hw⟩:=hw
 subst e1
 cases r
 obtain ⟨its,rv,ht,hz⟩:=I.tuple hq
 refine assign_Tuple_tuple (I.ok.hd hc) ht (by simp[hn,<-hl,rv.length]) hst fun h' hx=>?_
 have I1:Inv X pins σ H {s with heap:=h'}:=I.kept (t':=s.toks) fun b o e=>hx b o (Nat.ne_of_lt (Heap.lt_size e)) e
 exact h pins _ σ H xs _ Q I1 (by simpa using rv) hw
def sX(to ti:TE)(t:aDB):TG:=fun v σ H Q=>to σ H fun o H1=>ti σ H1 fun i H2=>t o i v H2 fun H3=>Q σ H3
theorem f7{o i:Expr}{to ti:TE}{t:aDB}(ho:PE X o to)(hi:PE X i ti)(hs:aGU X t)
  (ha:∀ v,assign (.Subscript o i pos) X.env v=(do
   let ov <-holding [v] (eval o X.env)
   let iv <-holding [v,ov] (eval i X.env)
   standAt pos
   holding [v,ov,iv] (setItem ov iv v)
   release [v,ov,iv] []):=by intro _;rfl):PG X (.Subscript o i pos) (sX to ti t):=by
 intro pins s σ H v u Q I r h
 rw[ha]
 refine wpAny_bind (wpAny_holding (thn (ho pins s σ H _ I h) fun ov s1 zz0=>?_))
 obtain ⟨x,H1,I1,r1,q1⟩:=zz0
 refine wpAny_bind (wpAny_holding (thn (hi pins s1 σ H1 _ I1 q1) fun iv s2 zz0=>?_))
 obtain ⟨y,H2,I2,r2,q2⟩:=zz0
 refine wpAny_bind (wpAny_standAt (wpAny_bind (wpAny_holding (thn (hs pins s2 σ H2 x y v ov iv u _ I2 r1 r2 r q2) fun _ s3 zz0=>?_))))
 obtain ⟨H3,I3,q3⟩:=zz0
 exact wpAny_release ⟨σ,H3,I3,q3⟩
def jR(te:TE)(g:TG):TS:=fun D σ H=>te σ H fun x H1=>g x σ H1 D.nx
theorem eX{tg e:Expr}{te:TE}{g:TG}(he:PE X e te)(hg:PG X tg g)(hs:swapsWithSole [tg] e pos.line X.env=pure false:=by rfl)(hw:swappedStores [tg] e X.env=pure none:=by rfl)
  (h1:(assignEach [tg] X.env).map (·.2)=[assign tg X.env]:=by rfl):PS X (.Assign [tg] e pos) (jR te g):=by
 intro pins s σ H D I h
 refine wpAny_Assign_stores (thn (he pins s σ H _ I h) fun v s1 zz0=>?_) hs hw
 obtain ⟨x,H1,I1,r1,q1⟩:=zz0
 rw[h1]
 exact thn (hg pins s1 σ H1 x v _ I1 r1 q1) fun _ s2 q=>q
theorem aN{i:Nat}{x:Str}{e:Expr}{te:TE}{pos':Pos}(hN:X.N.Nodup)(hi:X.N[i]? = some x)(hx:Loc X.env.scope x)(he:PE X e te)(hs:swapsWith e (some (.Name x pos')) pos.line X.env=pure false:=by rfl)(hf:X.fn x=true\/X.env.scope.names.lookup x=some .local:=by exact .inl rfl) :
  PS X (.Assign [.Name x pos'] e pos) (jR te (jN i)):=by
 intro pins s σ H D I h
 refine wpAny_Assign_Name (thn (he pins s σ H _ I h) fun v s1 zz0=>?_) hs
 obtain ⟨y,H1,I1,r1,q1⟩:=zz0
 exact y9 I1 hN hi hx r1 (fun s2 I2=>⟨_,H1,I2,q1⟩) hf
end
section
variable{X:Cx}{pos:Pos}
def aET(c:TT)(tb:TS):TS:=fun D σ H=>∃ W:Nat->St->Hp->Prop,(∃ m,W m σ H)/\∀ m σ H,W m σ H->
 c σ H fun b H1=>if b=true then ∃ N:St->Hp->Prop,(∀ σ' H',N σ' H'->∃ m',m' < m/\W m' σ' H')/\tb {D with nx:=N,ct:=N,bk:=D.nx} σ H1 else D.nx σ H1
theorem mG{c:Expr}{body:List Stmt}{tc:TT}{tb:TS}(hp:PassesOwn (model X.prog X.w) X.A X.env X.xe)(hc:PT X c tc)(hb:PSs X body tb):PS X (.While c body [] pos) (aET tc tb):=by
 intro pins s σ H D I h
 obtain ⟨W,⟨m0,w0⟩,turn⟩:=h
 refine wpAny_While (codeAny_whileLoop (fun n s'=>∃ σ' H',Inv X pins σ' H' s'/\W n σ' H') ?_ m0 ⟨σ,H,I,w0⟩)
 rintro n s1 ⟨σ1,H1,I1,w1⟩
 refine wpAny_passesOwn hp (thn (hc pins s1 σ1 H1 _ I1 (turn n σ1 H1 w1)) fun b s2 zz0=>?_)
 obtain ⟨H2,I2,q2⟩:=zz0
 cases b with
 | true=>
  obtain ⟨N,hN,q2⟩:=q2
  rw[if_pos rfl]
  refine wpAny_passesOwn hp (thn (hb pins s2 σ1 H2 _ I2 q2) fun f s3 q3=>?_)
  cases f with
  | next=>
   obtain ⟨σ3,H3,I3,n3⟩:=q3
   obtain ⟨m',hm,w3⟩:=hN σ3 H3 n3
   exact ⟨m',hm,σ3,H3,I3,w3⟩
  | cont=>
   obtain ⟨σ3,H3,I3,n3⟩:=q3
   obtain ⟨m',hm,w3⟩:=hN σ3 H3 n3
   exact ⟨m',hm,σ3,H3,I3,w3⟩
  | brk=>exact q3
  | ret v=>exact q3
 | false=>
  rw[if_neg Bool.false_ne_true]
  exact wpAny_execs_nil ⟨σ1,H2,I2,q2⟩
end
structure It where
 go:Nat->Hp->Prop
 yld:Nat->Hp->V->Hp->Prop
 stop:Nat->Hp->Prop
def i6(X:Cx)(pins:List (Addr×Obj))(H:Hp)(b:Addr):Prop:=
 H b=none/\b≠X.env.locals/\b∉X.fs/\(b∈X.ex\/X.s₀.heap.objs.size<=b)/\(∀ x c,X.env.cells.lookup x=some c->c≠b)/\∀ p∈X.pn++pins,p.1≠b
theorem Inv.fpOk{X:Cx}{pins:List (Addr×Obj)}{σ:St}{H H':Hp}{s:Shared}{b:Addr}(I:Inv X pins σ H s)(hb:s.heap.objs.size<=b)(hn:H' b=none):i6 X pins H' b:=by
 refine ⟨hn,Nat.ne_of_gt (Nat.lt_of_lt_of_le I.lt hb),I.nofs hb,.inr (Nat.le_trans I.sz hb),fun x c e z=>?_,fun p hp z=>?_⟩
 ·obtain ⟨v,q⟩:=I.cell x c e
  exact absurd (Nat.lt_of_lt_of_le q.lt (by rw[z];exact hb)) (Nat.lt_irrefl _)
 ·exact absurd (Nat.lt_of_lt_of_le (Heap.lt_size (I.pin p hp).1) (by rw[z];exact hb)) (Nat.lt_irrefl _)
structure Turn(P:Program)(w:World)(K:Frag)(tg:Expr)(J:It)(fp:List Addr)(it:Addr)(tn:Nat->Heap->Prop):Prop where
 mem:it∈fp
 obj:∀ i h,tn i h->∀ b∈fp,∃ o,h.get? b=some o/\∀ v,o.data≠.cell v
 keep:∀ i h h',tn i h->(∀ b∈fp,∀ o,h.get? b=some o->h'.get? b=some o)->tn i h'
 item:∀ (X:Cx),X.prog=P->X.w=w->X.K=K->X.calm=true->∀ (i:Nat) (pins:List (Addr×Obj)) (s:Shared) (σ:St) (H:Hp) (E:Value->Shared->Prop),Inv X pins σ H s->(∀ b∈fp,i6 X pins H b)->tn i s.heap->J.go i H->
  wpAny (model P w) X.A (pyNext (.ref it)) (fun r s1=>∃ u,r=some u /\
   wpAny (model P w) X.A (letOwnedTupleGo tg (.ref it) u) (fun _ s2=>∃ x H',Inv X pins σ H' s2/\bS x u/\J.yld i H x H'/\tn (i+1) s2.heap/\∀ b∈fp,H' b=none) E s1) E s
 done:∀ (X:Cx),X.prog=P->X.w=w->X.K=K->X.calm=true->∀ (i:Nat) (pins:List (Addr×Obj)) (s:Shared) (σ:St) (H:Hp) (E:Value->Shared->Prop),Inv X pins σ H s->(∀ b∈fp,i6 X pins H b)->tn i s.heap->J.stop i H->
  wpAny (model P w) X.A (pyNext (.ref it)) (fun r s1=>r=none/\Inv X pins σ H s1) E s
 self:∀ (A:Around) (i:Nat) (s:Shared) (Q:Value->Shared->Prop) (E:Value->Shared->Prop),tn i s.heap->Q (.ref it) s->wpAny (model P w) A (pyIter (.ref it)) Q E s
abbrev TI:=St->Hp->(It->Hp->Prop)->Prop
def PIE(X:Cx)(pins:List (Addr×Obj))(σ:St)(tg:Expr)(R:It->Hp->Prop)(itv:Value)(s2:Shared):Prop:=
 ∃ (it:Addr) (fp:List Addr) (tn:Nat->Heap->Prop) (J:It) (H':Hp),itv=.ref it/\Inv X pins σ H' s2/\Turn X.prog X.w X.K tg J fp it tn/\tn 0 s2.heap/\(∀ b∈fp,i6 X pins H' b)/\R J H'
def PI(X:Cx)(tg iter:Expr)(wi:TI):Prop:=
 ∀ (pins:List (Addr×Obj)) (s:Shared) (σ:St) (H:Hp) (R:It->Hp->Prop),Inv X pins σ H s->wi σ H R->
  wpAny (model X.prog X.w) X.A (eval iter X.env) (fun v s1=>wpAny (model X.prog X.w) X.A (pyIter v) (PIE X pins σ tg R) X.xe s1) X.xe s
theorem yQ {M : Model} {A : Around} {E : Value -> Shared -> Prop} {s : Shared} {tg : Expr} {it : Addr} {u : Value} {o : Obj} {n : String} {vs : Array Value} {Q : Unit -> Shared -> Prop} (ho : s.heap.get? it = some o) (hc : o.cls = .type n) (hd : o.data = .fields vs)
    (hn : ["enumerate", "zip", "dict_itemiterator", "dict_reverseitemiterator", "odict_iterator", "itertools.zip_longest", "itertools.pairwise"].contains n = false) (hQ : Q () s) : wpAny M A (letOwnedTupleGo tg (.ref it) u) Q E s := by
  unfold letOwnedTupleGo
  cases tg <;> first
    | exact wpAny_pure hQ
    | (cases u <;> first
        | exact wpAny_pure hQ
        | (refine wpAny_bind (wpAny_load ho ?_)
           rw [hc, hd]
           show wpAny M A (if (["enumerate", "zip", "dict_itemiterator", "dict_reverseitemiterator", "odict_iterator", "itertools.zip_longest", "itertools.pairwise"].contains n && vs[0]? == some (rawInt _)) = true then _ else _) Q E s
           rw [if_neg (by intro h; rw [hn, Bool.false_and] at h; cases h)]
           exact wpAny_pure hQ))
def Itl(K:Frag)(a:Addr):It:=
 ⟨fun i H=>∃ xs x,SqL K H a xs/\xs[i]? = some x,fun i H x H'=>H'=H/\∀ xs,SqL K H a xs->xs[i]? = some x,fun i H=>∃ xs,SqL K H a xs/\xs.length<=i⟩
def Itt(K:Frag)(a:Addr):It:=
 ⟨fun i H=>∃ xs x,SqT K H a xs/\xs[i]? = some x,fun i H x H'=>H'=H/\∀ xs,SqT K H a xs->xs[i]? = some x,fun i H=>∃ xs,SqT K H a xs/\xs.length<=i⟩
noncomputable def Itr(lo:Int)(n:Nat):It:=⟨fun i _=>i < n,fun i H x H'=>H'=H/\x=.int (lo+i),fun i _=>n<=i⟩
theorem aEU{P:Program}{w:World}{K:Frag}{tg:Expr}(a it:Addr):Turn P w K tg (Itl K a) [it] it (fun i h=>h.IsListIter it a i) where
 mem:=by simp
 obj:=fun i h st b hb=>by
  have e:b=it:=by simpa using hb
  subst e
  obtain ⟨o,e,c,d⟩:=st
  exact ⟨o,e,fun v z=>by rw[d] at z;cases z⟩
 keep:=fun i h h' st k=>st.at fun o e=>k it (by simp) o e
 item:=by
  intro X hP hw hK hc i pins s σ H E I hf st hg
  subst hP hw hK
  obtain ⟨xs,x,hq,hx⟩:=hg
  obtain ⟨its,rv,p,hz⟩:=I.list hq
  obtain ⟨u,hu,ru⟩:=rv.get hx
  obtain ⟨f0,f1,f2,f3,f4,f5⟩:=hf it (by simp)
  refine wpAny_pyNext_list_item st p.isList (x:=u) (by simpa using hu) fun h' st' sb=>?_
  have I1:Inv X pins σ H {s with heap:=h'}:=I.turned (t':=s.toks) (fun b o hb e=>(sb.2 b hb).trans e) f0 f1 f3 f4 f5
  obtain ⟨o,e,c,d⟩:=id st'
  exact ⟨u,rfl,yQ (s:={s with heap:=h'}) e c d (by decide) ⟨x,H,I1,ru,⟨rfl,fun ys hy=>by rw[I.list_inj hy hq];exact hx⟩,st',fun b hb=>(hf b hb).1⟩⟩
 done:=by
  intro X hP hw hK hc i pins s σ H E I hf st hg
  subst hP hw hK
  obtain ⟨xs,hq,hx⟩:=hg
  obtain ⟨its,rv,p,hz⟩:=I.list hq
  obtain ⟨f0,f1,f2,f3,f4,f5⟩:=hf it (by simp)
  have hl:=rv.length
  exact wpAny_pyNext_list_end (I.ok.hd hc) st p.isList (by simp;omega) fun h' eb=>⟨rfl,I.turned (t':=s.toks) (fun b o hb e=>eb b o hb e) f0 f1 f3 f4 f5⟩
 self:=fun _ _ _ _ _ st h=>wpAny_pyIter_listiter st h
theorem aDD{P:Program}{w:World}{K:Frag}{tg:Expr}(a it:Addr):Turn P w K tg (Itt K a) [it] it (fun i h=>h.IsTupleIter it a i) where
 mem:=by simp
 obj:=fun i h st b hb=>by
  have e:b=it:=by simpa using hb
  subst e
  obtain ⟨o,e,c,d⟩:=st
  exact ⟨o,e,fun v z=>by rw[d] at z;cases z⟩
 keep:=fun i h h' st k=>st.at fun o e=>k it (by simp) o e
 item:=by
  intro X hP hw hK hc i pins s σ H E I hf st hg
  subst hP hw hK
  obtain ⟨xs,x,hq,hx⟩:=hg
  obtain ⟨its,rv,p,hz⟩:=I.tuple hq
  obtain ⟨u,hu,ru⟩:=rv.get hx
  obtain ⟨f0,f1,f2,f3,f4,f5⟩:=hf it (by simp)
  refine wpAny_pyNext_tuple_item st (show s.heap.IsTuple a its.toArray from p) (x:=u) (by simpa using hu) fun h' st' sb=>?_
  have I1:Inv X pins σ H {s with heap:=h'}:=I.turned (t':=s.toks) (fun b o hb e=>(sb.2 b hb).trans e) f0 f1 f3 f4 f5
  obtain ⟨o,e,c,d⟩:=id st'
  exact ⟨u,rfl,yQ (s:={s with heap:=h'}) e c d (by decide) ⟨x,H,I1,ru,⟨rfl,fun ys hy=>by rw[I.tuple_inj hy hq];exact hx⟩,st',fun b hb=>(hf b hb).1⟩⟩
 done:=by
  intro X hP hw hK hc i pins s σ H E I hf st hg
  subst hP hw hK
  obtain ⟨xs,hq,hx⟩:=hg
  obtain ⟨its,rv,p,hz⟩:=I.tuple hq
  obtain ⟨f0,f1,f2,f3,f4,f5⟩:=hf it (by simp)
  have hl:=rv.length
  exact wpAny_pyNext_tuple_end (I.ok.hd hc) st (show s.heap.IsTuple a its.toArray from p) (by simp;omega) fun h' eb=>⟨rfl,I.turned (t':=s.toks) (fun b o hb e=>eb b o hb e) f0 f1 f3 f4 f5⟩
 self:=fun _ _ _ _ _ st h=>wpAny_pyIter_tupleiter st h
theorem aDE{P:Program}{w:World}{K:Frag}{tg:Expr}(it:Addr)(lo:Int)(n:Nat):Turn P w K tg (Itr lo n) [it] it (fun i h=>IsRangeIter h it (lo+(i:Nat) * 1) ((n:Int) - (i:Nat)) 1) where
 mem:=by simp
 obj:=fun i h st b hb=>by
  have e:b=it:=by simpa using hb
  subst e
  exact ⟨_,st,fun v z=>by
   have z':Data.fields _=Data.cell v:=z
   cases z'⟩
 keep:=fun i h h' st k=>k it (by simp) _ st
 item:=by
  intro X hP hw hK hc i pins s σ H E I hf st hg
  subst hP hw hK
  obtain ⟨f0,f1,f2,f3,f4,f5⟩:=hf it (by simp)
  have W:=Walks.range (prog:=X.prog) (w:=X.w) (I.ok.hd hc) it lo 1 n
  refine W.item i s _ _ hg st fun v h' tk hv st' kk=>?_
  obtain ⟨t,rfl⟩:=hv
  have I1:Inv X pins σ H {s with heap:=h',toks:=tk}:=I.turned (fun b o hb e=>kk b o (by simpa using hb) e) f0 f1 f3 f4 f5
  refine ⟨_,rfl,yQ (s:={s with heap:=h',toks:=tk}) (n:="range_iterator") st' rfl rfl (by decide) ⟨.int (lo+i),H,I1,⟨t,?_⟩,⟨rfl,rfl⟩,st',fun b hb=>(hf b hb).1⟩⟩
  rw[Int.mul_one]
 done:=by
  intro X hP hw hK hc i pins s σ H E I hf st hg
  subst hP hw hK
  obtain ⟨f0,f1,f2,f3,f4,f5⟩:=hf it (by simp)
  exact wpAny_pyNext_range_end (I.ok.hd hc) st (by have:n<=i:=hg;omega) fun h' eb=>⟨rfl,I.turned (t':=s.toks) (fun b o hb e=>eb b o hb e) f0 f1 f3 f4 f5⟩
 self:=fun _ _ _ _ _ st h=>wpAny_pyIter_rangeiter st h
end L2
namespace L2
open PySem PySem.Spec PyProof.Rows
section
variable{X:Cx}{tg:Expr}
theorem zB{pins:List (Addr×Obj)}{σ:St}{H:Hp}{s:Shared}{R:It->Hp->Prop}{E:Value->Shared->Prop}{lo hi:Int}{t u v:Tok}{tk:Nat}(I:Inv X pins σ H s)(h1 : -(2 ^ 62)<=lo)(h2:lo < 2 ^ 62)(h3 : -(2 ^ 62)<=hi)(h4:hi < 2 ^ 62)
  (q:R (Itr lo (hi - lo).toNat) H):wpAny (model X.prog X.w) X.A (pyIter (.ref s.heap.objs.size)) (PIE X pins σ tg R) E {s with heap:=s.heap.push {cls:=.type "range",data:=.fields #[.int lo t,.int hi u,.int 1 v]},toks:=tk}:=by
 refine wpAny_pyIter_range (IsRange.new ..) (small_one h1 h2 h3 h4) ?_
 have I1:Inv X pins σ H {s with heap:=s.heap.push {cls:=.type "range",data:=.fields #[.int lo t,.int hi u,.int 1 v]},toks:=tk}:=I.kept fun b o e=>Heap.get?_push_of_some _ e
 refine ⟨(s.heap.push {cls:=.type "range",data:=.fields #[.int lo t,.int hi u,.int 1 v]}).objs.size,[(s.heap.push {cls:=.type "range",data:=.fields #[.int lo t,.int hi u,.int 1 v]}).objs.size],_,_,H,rfl,
  I1.kept (t':=tk) fun b o e=>Heap.get?_push_of_some _ e,aDE _ lo (hi - lo).toNat,?_,fun b hb=>?_,q⟩
 ·have e1:lo+((0:Nat):Int) * 1=lo:=by simp
  have e2:(((hi - lo).toNat:Nat):Int) - ((0:Nat):Int)=Builtin.Range.rangeSize lo hi 1:=by rw[rangeSize_one];split<;>omega
  show IsRangeIter _ _ (lo+((0:Nat):Int) * 1) ((((hi - lo).toNat:Nat):Int) - ((0:Nat):Int)) 1
  rw[e1,e2]
  exact Heap.get?_push_size _ rfl
 ·have e:b=(s.heap.push {cls:=.type "range",data:=.fields #[.int lo t,.int hi u,.int 1 v]}).objs.size:=by simpa using hb
  subst e
  exact I1.fpOk (Nat.le_refl _) (I1.hok.fresh (Nat.le_refl _))
def aI0(ta:TA):TI:=fun σ H R=>ta σ H fun vs H1=>∃ j:Int,vs=[.int j] /\ -(2 ^ 62)<=j/\j < 2 ^ 62/\R (Itr 0 j.toNat) H1
def aI1(ta:TA):TI:=fun σ H R=>ta σ H fun vs H1=>∃ i j:Int,vs=[.int i,.int j]/\(-(2 ^ 62)<=i/\i < 2 ^ 62 /\ -(2 ^ 62)<=j/\j < 2 ^ 62)/\R (Itr i (j - i).toNat) H1
theorem iH{a:Expr}{ta:TA}{p pos:Pos}(hg:Gl X "range")(hm:X.mg "range"=none)(ha:PA X [a] ta)(hs:starEach [a] X.env=[(false,eval a X.env)]:=by rfl):PI X tg (.Call (.Name "range" p) [a] [] pos) (aI0 ta):=by
 intro pins s σ H R I h
 refine Call_ (lL I hg hm boot_range (PyProof.Rows.callWith_type1 (thn (ha pos pins s σ H _ I h) fun us s1 zz0=>?_) hs rfl))
 obtain ⟨vs,H1,I1,r1,q1⟩:=zz0
 obtain ⟨j,e,q1,q2,q⟩:=q1
 subst e
 cases r1 with
 | cons r rr=>
  cases rr
  obtain ⟨t,rfl⟩:=r
  exact call_range_1 (zB I1 (by omega) (by omega) q1 q2 (by simpa using q))
theorem w5{a b:Expr}{ta:TA}{p pos:Pos}(hg:Gl X "range")(hm:X.mg "range"=none)(ha:PA X [a,b] ta)(hs:starEach [a,b] X.env=[(false,eval a X.env),(false,eval b X.env)]:=by rfl)(hs2:starEach [b] X.env=[(false,eval b X.env)]:=by rfl) :
  PI X tg (.Call (.Name "range" p) [a,b] [] pos) (aI1 ta):=by
 intro pins s σ H R I h
 refine Call_ (lL I hg hm boot_range (PyProof.Rows.callWith_type1 (thn (ha pos pins s σ H _ I h) fun us s1 zz0=>?_) (by rw[hs,hs2]) (by rw[hs2];rfl)))
 obtain ⟨vs,H1,I1,r1,q1⟩:=zz0
 obtain ⟨i,j,e,⟨q1,q2,q3,q4⟩,q⟩:=q1
 subst e
 cases r1 with
 | cons r rr=>
  cases rr with
  | cons r' rr=>
   cases rr
   obtain ⟨t,rfl⟩:=r
   obtain ⟨t',rfl⟩:=r'
   exact call_range_2 (zB I1 q1 q2 q3 q4 q)
def aGW(wi:TI)(g:TG)(tb:TS):TS:=fun D σ H=>wi σ H fun J H1=>∃ W:Nat->Nat->St->Hp->Prop,(∃ m,W 0 m σ H1)/\∀ i m σ H,W i m σ H->
 (J.stop i H/\D.nx σ H)\/(J.go i H/\∃ N:St->Hp->Prop,(∀ σ' H',N σ' H'->∃ m',m' < m/\W (i+1) m' σ' H')/\∀ x H',J.yld i H x H'->g x σ H' fun σ2 H2=>tb {D with nx:=N,ct:=N,bk:=D.nx} σ2 H2)
noncomputable def p6(fp:List Addr)(h:Heap):List (Addr×Obj):=fp.filterMap fun b=>(h.get? b).map fun o=>(b,o)
theorem l0{fp:List Addr}{h:Heap}{b:Addr}{o:Obj}(hb:b∈fp)(e:h.get? b=some o):(b,o)∈p6 fp h:=List.mem_filterMap.mpr ⟨b,hb,by rw[e];rfl⟩
theorem aEV{fp:List Addr}{h:Heap}{p:Addr×Obj}(hp:p∈p6 fp h):p.1∈fp/\h.get? p.1=some p.2:=by
 obtain ⟨b,hb,e⟩:=List.mem_filterMap.mp hp
 cases q:h.get? b with
 | none=>rw[q] at e;cases e
 | some o=>
  rw[q] at e
  have e':(b,o)=p:=Option.some.inj e
  subst e'
  exact ⟨hb,q⟩
theorem Inv.pinned{pins:List (Addr×Obj)}{σ:St}{H:Hp}{s:Shared}{fp:List Addr}(I:Inv X pins σ H s)(hf:∀ b∈fp,i6 X pins H b)(ho:∀ b∈fp,∃ o,s.heap.get? b=some o/\∀ v,o.data≠.cell v):Inv X (pins++p6 fp s.heap) σ H s:=
 I.pins_of fun p hp=>(List.mem_append.mp hp).elim (fun z=>I.pin p (List.mem_append_right _ z)) fun z=>by
  obtain ⟨hb,e⟩:=aEV z
  obtain ⟨f0,f1,f2,_⟩:=hf p.1 hb
  obtain ⟨o,e',d⟩:=ho p.1 hb
  rw[e] at e';cases e'
  exact ⟨e,f0,f1,f2,d⟩
theorem Inv.unpinned{pins pl:List (Addr×Obj)}{σ:St}{H:Hp}{s:Shared}(I:Inv X (pins++pl) σ H s):Inv X pins σ H s:=I.pins_of fun p hp=>I.pin p (List.mem_append_right _ (List.mem_append_left _ hp))
theorem eR{iter:Expr}{body:List Stmt}{wi:TI}{g:TG}{tb:TS}{pos:Pos}(hp:PassesOwn (model X.prog X.w) X.A X.env X.xe)(hc:X.calm=true)(hi:PI X tg iter wi)(hg:PG X tg g)(hb:PSs X body tb)
  (hs:∀ x,foldedSetIterable iter X.env x=pure x:=by intro _;rfl):PS X (.For tg iter body [] pos) (aGW wi g tb):=by
 intro pins s σ H D I h
 refine wpAny_For (thn (hi pins s σ H _ I h) fun v s1 h1=>thn h1 fun itv s2 h2=>?_) hs
 obtain ⟨it,fp,tn,J,H2,e,I2,T,st2,f2,W,⟨m0,w0⟩,turn⟩:=h2
 subst e
 have stat:∀ {H':Hp},(∀ b∈fp,H' b=none)->∀ b∈fp,i6 X pins H' b:=fun hn b hb=>⟨hn b hb,(f2 b hb).2⟩
 refine codeAny_forLoop_any (fun n s'=>∃ i σ' H',Inv X pins σ' H' s'/\tn i s'.heap/\(∀ b∈fp,H' b=none)/\W i n σ' H') ?_ m0 ⟨0,σ,H2,I2,st2,fun b hb=>(f2 b hb).1,w0⟩
 rintro n s3 ⟨i,σ3,H3,I3,st3,fr3,w3⟩
 rcases turn i n σ3 H3 w3 with ⟨stop,qn⟩|⟨go,N,hN,step⟩
 ·refine wpAny_passesOwn hp (thn (T.done X rfl rfl rfl hc i pins s3 σ3 H3 X.xe I3 (stat fr3) st3 stop) fun r s4 zz0=>?_)
  obtain ⟨hr,I4⟩:=zz0
  subst hr
  exact wpAny_execs_nil ⟨σ3,H3,I4,qn⟩
 ·refine wpAny_passesOwn hp (thn (T.item X rfl rfl rfl hc i pins s3 σ3 H3 X.xe I3 (stat fr3) st3 go) fun r s4 zz0=>?_)
  obtain ⟨u,hr,h4⟩:=zz0
  subst hr
  refine wpAny_passesOwn hp (thn h4 fun _ s5 zz0=>?_)
  obtain ⟨x,H5,I5,r5,y5,st5,fr5⟩:=zz0
  have I5':=I5.pinned (stat fr5) (T.obj _ _ st5)
  refine wpAny_passesOwn hp (thn (hg _ s5 σ3 H5 x u _ I5' r5 (step x H5 y5)) fun _ s6 zz0=>?_)
  obtain ⟨σ6,H6,I6,q6⟩:=zz0
  refine wpAny_passesOwn hp (thn (hb _ s6 σ6 H6 _ I6 q6) fun f s7 q7=>?_)
  have again:∀ {σ7:St} {H7:Hp},Inv X (pins++p6 fp s5.heap) σ7 H7 s7->N σ7 H7->∃ m,m < n/\∃ i σ' H',Inv X pins σ' H' s7/\tn i s7.heap/\(∀ b∈fp,H' b=none)/\W i m σ' H':=fun {σ7 H7} I7 n7=>by
   obtain ⟨m',hm,w7⟩:=hN σ7 H7 n7
   refine ⟨m',hm,i+1,σ7,H7,I7.unpinned,T.keep _ _ _ st5 fun b hb o e=>(I7.pin (b,o) (List.mem_append_right _ (List.mem_append_right _ (l0 hb e)))).1,fun b hb=>?_,w7⟩
   obtain ⟨o,e,d⟩:=T.obj _ _ st5 b hb
   exact (I7.pin (b,o) (List.mem_append_right _ (List.mem_append_right _ (l0 hb e)))).2.1
  cases f with
  | next=>obtain ⟨σ7,H7,I7,n7⟩:=q7;exact again I7 n7
  | cont=>obtain ⟨σ7,H7,I7,n7⟩:=q7;exact again I7 n7
  | brk=>obtain ⟨σ7,H7,I7,q7⟩:=q7;exact ⟨σ7,H7,I7.unpinned,q7⟩
  | ret v=>obtain ⟨x7,σ7,H7,I7,r7,q7⟩:=q7;exact ⟨x7,σ7,H7,I7.unpinned,r7,q7⟩
end
end L2
namespace L2
open PySem PySem.Spec PyProof.Rows
abbrev R2:=V->V->Hp->VK->Prop
def OpR(X:Cx)(f:Value->Value->Sem Value)(r:R2):Prop:=
 ∀ (pins:List (Addr×Obj)) (s:Shared) (σ:St) (H:Hp) (x y:V) (v u:Value) (Q:VK),Inv X pins σ H s->bS x v->bS y u->r x y H Q->
  wpAny (model X.prog X.w) X.A (f v u) (EP X pins σ Q) X.xe s
def UnR(X:Cx)(f:Value->Sem Value)(r:V->Hp->VK->Prop):Prop:=
 ∀ (pins:List (Addr×Obj)) (s:Shared) (σ:St) (H:Hp) (x:V) (v:Value) (Q:VK),Inv X pins σ H s->bS x v->r x H Q->
  wpAny (model X.prog X.w) X.A (f v) (EP X pins σ Q) X.xe s
def jO(X:Cx)(f:Value)(r:List V->Hp->VK->Prop):Prop:=
 ∀ (pins:List (Addr×Obj)) (s:Shared) (σ:St) (H:Hp) (xs:List V) (us:List Value) (Q:VK),Inv X pins σ H s->bJ xs us->r xs H Q->
  wpAny (model X.prog X.w) X.A (call f us) (EP X pins σ Q) X.xe s
def tOp(r:R2)(ta tb:TE):TE:=fun σ H Q=>ta σ H fun x H1=>tb σ H1 fun y H2=>r x y H2 Q
def tUn(r:V->Hp->VK->Prop)(ta:TE):TE:=fun σ H Q=>ta σ H fun x H1=>r x H1 Q
def rI(C:Int->Int->Prop)(g:Int->Int->V):R2:=fun x y H Q=>∃ i j,x=.int i/\y=.int j/\C i j/\Q (g i j) H
def rI0(g:Int->Int->V):R2:=fun x y H Q=>∃ i j,x=.int i/\y=.int j/\Q (g i j) H
def rU(g:Int->V):V->Hp->VK->Prop:=fun x H Q=>∃ i,x=.int i/\Q (g i) H
section
variable{X:Cx}{a b c:Expr}{ta tb tc:TE}{pos:Pos}
theorem aGX(ha:PE X a ta)(hb:PE X b tb){pins:List (Addr×Obj)}{s:Shared}{σ:St}{H:Hp}{R:V->V->Hp->Prop}(I:Inv X pins σ H s)
  (h:ta σ H fun x H1=>tb σ H1 fun y H2=>R x y H2) {Q:Value->Shared->Prop} {f:Value->Value->Sem Value}
  (hf:∀ v u s2 x y H2,Inv X pins σ H2 s2->bS x v->bS y u->R x y H2->wpAny (model X.prog X.w) X.A (f v u) Q X.xe s2) :
  wpAny (model X.prog X.w) X.A (eval a X.env) (fun v s₁=>wpAny (model X.prog X.w) X.A (eval b X.env) (fun u s₂=>wpAny (model X.prog X.w) X.A (f v u) Q X.xe s₂) X.xe s₁) X.xe s:=by
 refine thn (ha pins s σ H _ I h) fun v s1 zz0=>?_
 obtain ⟨x,H1,I1,r1,q1⟩:=zz0
 refine thn (hb pins s1 σ H1 _ I1 q1) fun u s2 zz0=>?_
 obtain ⟨y,H2,I2,r2,q2⟩:=zz0
 exact hf v u s2 x y H2 I2 r1 r2 q2
theorem aI2{op:Operator}{r:R2}(ho:OpR X (binaryOp op) r)(ha:PE X a ta)(hb:PE X b tb):PE X (.BinOp a op b pos) (tOp r ta tb):=by
 intro pins s σ H Q I h
 exact wpAny_BinOp (aGX ha hb I h fun v u s2 x y H2 I2 rx ry q=>ho pins s2 σ H2 x y v u Q I2 rx ry q)
theorem aOG{op:UnaryOp}{r:V->Hp->VK->Prop}(ho:UnR X (unaryOp op) r)(ha:PE X a ta):PE X (.UnaryOp op a pos) (tUn r ta):=by
 intro pins s σ H Q I h
 exact UnaryOp_ (thn (ha pins s σ H _ I h) fun v s1 ⟨x,H1,I1,r1,q1⟩=>ho pins s1 σ H1 x v Q I1 r1 q1)
theorem opI{f:Value->Value->Sem Value}{C:Int->Int->Prop}{g:Int->Int->Int}
  (rule:∀ (i j:Int) (t u:Tok) (s:Shared) (Q:Value->Shared->Prop) (E:Value->Shared->Prop),C i j->Q (.int (g i j) s.toks) {s with toks:=s.toks+1}->wpAny (model X.prog X.w) X.A (f (.int i t) (.int j u)) Q E s) :
  OpR X f (rI C fun i j=>.int (g i j)):=by
 intro pins s σ H x y v u Q I rx ry h
 obtain ⟨i,j,rfl,rfl,hc,q⟩:=h
 obtain ⟨t,rfl⟩:=rx
 obtain ⟨t',rfl⟩:=ry
 exact rule i j t t' s _ _ hc ⟨.int (g i j),H,I.tok _,⟨_,rfl⟩,q⟩
theorem aL4{f:Value->Value->Sem Value}{g:Int->Int->Int}
  (rule:∀ (i j:Int) (t u:Tok) (s:Shared) (Q:Value->Shared->Prop) (E:Value->Shared->Prop),Q (.int (g i j) s.toks) {s with toks:=s.toks+1}->wpAny (model X.prog X.w) X.A (f (.int i t) (.int j u)) Q E s) :
  OpR X f (rI0 fun i j=>.int (g i j)):=by
 intro pins s σ H x y v u Q I rx ry h
 obtain ⟨i,j,rfl,rfl,q⟩:=h
 obtain ⟨t,rfl⟩:=rx
 obtain ⟨t',rfl⟩:=ry
 exact rule i j t t' s _ _ ⟨.int (g i j),H,I.tok _,⟨_,rfl⟩,q⟩
theorem aDF{f:Value->Value->Sem Value}{g:Int->Int->Bool}
  (rule:∀ (i j:Int) (t u:Tok) (s:Shared) (Q:Value->Shared->Prop) (E:Value->Shared->Prop),Q (.bool (g i j)) s->wpAny (model X.prog X.w) X.A (f (.int i t) (.int j u)) Q E s) :
  OpR X f (rI0 fun i j=>.bl (g i j)):=by
 intro pins s σ H x y v u Q I rx ry h
 obtain ⟨i,j,rfl,rfl,q⟩:=h
 obtain ⟨t,rfl⟩:=rx
 obtain ⟨t',rfl⟩:=ry
 exact rule i j t t' s _ _ ⟨.bl (g i j),H,I,rfl,q⟩
def aPP(i j:Int):Prop:=0<=j/\j<=1000000/\i.natAbs < 2 ^ 64
def aGY(i j:Int):Prop:=(-(2 ^ 64) < i/\i < 2 ^ 64)\/(-(2 ^ 64) < j/\j < 2 ^ 64)
theorem aGY.ok{i j:Int}(h:aGY i j):IntMulOk i j:=by
 rcases h with ⟨h1,h2⟩|⟨h1,h2⟩
 · exact .of_left (intBits_le_64 h1 h2)
 · exact .of_right (intBits_le_64 h1 h2)
theorem aL5:OpR X (binaryOp .Add) (rI0 fun i j=>.int (i+j)):=aL4 fun _ _ _ _ _ _ _ q=>add_int q
theorem aL6:OpR X (binaryOp .Sub) (rI0 fun i j=>.int (i - j)):=aL4 fun _ _ _ _ _ _ _ q=>sub_int q
theorem aL7:OpR X (binaryOp .Mult) (rI aGY fun i j=>.int (i * j)):=opI fun _ _ _ _ _ _ _ hc q=>mul_int q hc.ok
theorem aL8:OpR X (binaryOp .Mod) (rI (fun _ j=>0 < j) fun i j=>.int (i % j)):=opI fun i j _ _ _ _ _ hc q=>by
 have h1:(0:Int) < j:=hc
 exact mod_int' (by omega) (by rw[Int.fmod_eq_emod_of_nonneg i (by omega)];exact q)
theorem aL9:OpR X (binaryOp .Pow) (rI aPP fun i j=>.int (i ^ j.toNat)):=opI fun _ _ _ _ _ _ _ hc q=>pow_int_small hc.1 hc.2.1 hc.2.2 q
theorem unI{f:Value->Sem Value}{g:Int->Int}
  (rule:∀ (i:Int) (t:Tok) (s:Shared) (Q:Value->Shared->Prop) (E:Value->Shared->Prop),Q (.int (g i) s.toks) {s with toks:=s.toks+1}->wpAny (model X.prog X.w) X.A (f (.int i t)) Q E s) :
  UnR X f (rU fun i=>.int (g i)):=by
 intro pins s σ H x v Q I rx h
 obtain ⟨i,rfl,q⟩:=h
 obtain ⟨t,rfl⟩:=rx
 exact rule i t s _ _ ⟨.int (g i),H,I.tok _,⟨_,rfl⟩,q⟩
theorem aMA:UnR X (unaryOp .USub) (rU fun i=>.int (-i)):=unI fun _ _ _ _ _ q=>neg_int q
end
section
variable{X:Cx}{a b c:Expr}{ta tb tc:TE}{pos:Pos}
theorem t6{pins:List (Addr×Obj)}{σ:St}{H:Hp}{s:Shared}{Q:VK}{k k':Bool}(I:Inv X pins σ H s)(q:Q (.bl k) H)(e:k=k'):EP X pins σ Q (.bool k') s:=by
 subst e
 exact ⟨.bl k,H,I,rfl,q⟩
theorem aOH:OpR X (compareOp .Lt) (rI0 fun i j=>.bl (decide (i < j))):=aDF fun _ _ _ _ _ _ _ q=>lt_int q
theorem aOI:OpR X (compareOp .LtE) (rI0 fun i j=>.bl (decide (i<=j))):=aDF fun _ _ _ _ _ _ _ q=>le_int q
theorem aOJ:OpR X (compareOp .Gt) (rI0 fun i j=>.bl (decide (j < i))):=aDF fun _ _ _ _ _ _ _ q=>gt_int q
theorem aOK:OpR X (compareOp .GtE) (rI0 fun i j=>.bl (decide (j<=i))):=aDF fun _ _ _ _ _ _ _ q=>ge_int q
theorem aEW:OpR X (compareOp .In) (fun x y H Q=>∃ i j,x=.str i/\y=.str j/\Q (.bl (!(Builtin.Str.occurrences j i 0 j.length 1).isEmpty)) H):=by
 intro pins s σ H x y v u Q I rx ry h
 obtain ⟨i,j,rfl,rfl,q⟩:=h
 obtain ⟨t,rfl⟩:=rx
 obtain ⟨t',rfl⟩:=ry
 exact in_str (t6 I q rfl)
theorem aMB:OpR X (compareOp .Is) (fun x y H Q=>y=.non/\Q (.bl (decide (x=.non))) H):=by
 intro pins s σ H x y v u Q I rx ry h
 obtain ⟨rfl,q⟩:=h
 cases ry
 refine is_none_gen (t6 I q ?_)
 cases x<;>first
  | (cases rx;rfl)
  | (obtain ⟨t,rfl⟩:=rx;rfl)
theorem aJW:OpR X (compareOp .IsNot) (fun x y H Q=>y=.non/\Q (.bl (!decide (x=.non))) H):=by
 intro pins s σ H x y v u Q I rx ry h
 obtain ⟨rfl,q⟩:=h
 cases ry
 refine isnot_none_gen (t6 I q ?_)
 cases x<;>first
  | (cases rx;rfl)
  | (obtain ⟨t,rfl⟩:=rx;rfl)
theorem zC:OpR X (compareOp .NotIn) (fun x y H Q=>∃ i j,x=.str i/\y=.str j/\Q (.bl (!(!(Builtin.Str.occurrences j i 0 j.length 1).isEmpty))) H):=by
 intro pins s σ H x y v u Q I rx ry h
 obtain ⟨i,j,rfl,rfl,q⟩:=h
 obtain ⟨t,rfl⟩:=rx
 obtain ⟨t',rfl⟩:=ry
 exact notIn_str (t6 I q rfl)
theorem bO(b:Expr){op:CmpOp}(h:op≠.In:=by decide)(h2:op≠.NotIn:=by decide):behindInMarks op b=false:=by
 have e1:(op == CmpOp.In)=false:=by cases op<;>first|rfl|exact absurd rfl h
 have e2:(op == CmpOp.NotIn)=false:=by cases op<;>first|rfl|exact absurd rfl h2
 cases b<;>simp[behindInMarks,e1,e2]
theorem aJX{op:CmpOp}{r:R2}(ho:OpR X (compareOp op) r)(ha:PE X a ta)(hb:PE X b tb)(hm:behindInMarks op b=false):PE X (.Compare a [op] [b] pos) (tOp r ta tb):=by
 intro pins s σ H Q I h
 exact wpAny_Compare1 (aGX ha hb I h fun v u s2 x y H2 I2 rx ry q=>ho pins s2 σ H2 x y v u Q I2 rx ry q) hm
def aDG(t:TE):TT:=fun σ H Q=>t σ H fun x H'=>∃ k,x=.bl k/\Q k H'
theorem vQ{op:CmpOp}{r:R2}(ho:OpR X (compareOp op) r)(ha:PE X a ta)(hb:PE X b tb)(hm:behindInMarks op b=false):PT X (.Compare a [op] [b] pos) (aDG (tOp r ta tb)):=by
 intro pins s σ H Q I h
 refine wpAny_isTrue_Compare1 (thn (ha pins s σ H _ I h) fun v s1 ⟨x,H1,I1,r1,q1⟩=>thn (hb pins s1 σ H1 _ I1 q1) fun u s2 ⟨y,H2,I2,r2,q2⟩=>
  thn (ho pins s2 σ H2 x y v u _ I2 r1 r2 q2) fun c s3 ⟨z,H3,I3,r3,k,e,q3⟩=>?_) hm
 subst e
 cases r3
 exact wpAny_truthy_bool ⟨H3,I3,q3⟩
theorem p7:(sizeLine:Nat) < 2 ^ 63:=by rw[sizeLine_eq];decide
theorem aDH:OpR X (binaryOp .Add) (fun x y H Q=>∃ i j,x=.str i/\y=.str j/\i.length+j.length<=sizeLine/\Q (.str (i++j)) H):=by
 intro pins s σ H x y v u Q I rx ry h
 obtain ⟨i,j,rfl,rfl,hz,q⟩:=h
 obtain ⟨t,rfl⟩:=rx
 obtain ⟨t',rfl⟩:=ry
 exact add_str (fun t' tk=>⟨.str (i++j),H,I.tok _,⟨_,rfl⟩,q⟩) hz
theorem nI{x:V}{us:List Value}(r:bJ [x] us):∃ u,us=[u]/\bS x u:=by
 cases r with
 | cons r1 r2=>cases r2;exact ⟨_,rfl,r1⟩
theorem yR{x y:V}{us:List Value}(r:bJ [x,y] us):∃ u w',us=[u,w']/\bS x u/\bS y w':=by
 cases r with
 | cons r1 r2=>
  cases r2 with
  | cons r3 r4=>cases r4;exact ⟨_,_,rfl,r1,r3⟩
theorem aGZ:jO X (.builtin "abs") (fun xs H Q=>∃ i,xs=[.int i]/\Q (.int (if i < 0 then -i else i)) H):=by
 intro pins s σ H xs us Q I r h
 obtain ⟨i,rfl,q⟩:=h
 obtain ⟨u,rfl,t,rfl⟩:=nI r
 exact call_abs_int fun u tk=>⟨.int (if i < 0 then -i else i),H,I.tok _,⟨_,rfl⟩,q⟩
theorem p8(hc:X.calm=true):jO X (.builtin "min") (fun xs H Q=>∃ i j,xs=[.int i,.int j]/\Q (.int (if j < i then j else i)) H):=by
 intro pins s σ H xs us Q I r h
 obtain ⟨i,j,rfl,q⟩:=h
 obtain ⟨u,w',rfl,⟨t,rfl⟩,⟨t',rfl⟩⟩:=yR r
 refine min_two_ints (I.ok.hd hc) fun h' tk k=>⟨_,H,I.kept k,?_,q⟩
 by_cases hj:j < i
 · rw [if_pos hj, if_pos hj]; exact ⟨_, rfl⟩
 · rw [if_neg hj, if_neg hj]; exact ⟨_, rfl⟩
theorem nJ:jO X (.type "int") (fun xs H Q=>(∃ i,xs=[.int i]/\Q (.int i) H)\/∃ k,xs=[.bl k]/\Q (.int (if k then 1 else 0)) H):=by
 intro pins s σ H xs us Q I r h
 rcases h with ⟨i,rfl,q⟩|⟨k,rfl,q⟩
 ·obtain ⟨u,rfl,t,rfl⟩:=nI r
  exact call_int_int ⟨.int i,H,I,⟨_,rfl⟩,q⟩
 ·obtain ⟨u,rfl,r1⟩:=nI r
  cases r1
  exact call_int_bool ⟨.int (if k then 1 else 0),H,I.tok _,⟨_,rfl⟩,q⟩
def aMC(K:Frag)(x:V)(H:Hp)(n:Nat):Prop:=
 match x with
 | .str y=>y.length<=sizeLine/\n=y.length
 | .byt y=>y.size<=sizeLine/\n=y.size
 | .ref p=>(∃ xs,SqL K H p xs/\n=xs.length)\/∃ xs,SqT K H p xs/\n=xs.length
 | _=>False
theorem b7:jO X (.builtin "len") (fun xs H Q=>∃ x n,xs=[x]/\aMC X.K x H n/\Q (.int n) H):=by
 intro pins s σ H xs us Q I r h
 obtain ⟨x,n,rfl,e,q⟩:=h
 obtain ⟨u,rfl,rx⟩:=nI r
 have hl:=p7
 have hs:sizeLine=16777216:=sizeLine_eq
 cases x with
 | str y=>
  obtain ⟨t,rfl⟩:=rx
  obtain ⟨hy,e'⟩:y.length<=sizeLine/\n=y.length:=e
  subst e'
  exact len_str (by omega) ⟨.int _,H,I.tok _,⟨_,rfl⟩,q⟩
 | byt y=>
  obtain ⟨t,rfl⟩:=rx
  obtain ⟨hy,e'⟩:y.size<=sizeLine/\n=y.size:=e
  subst e'
  exact PySem.W.len_bytes (by omega) ⟨.int _,H,I.tok _,⟨_,rfl⟩,q⟩
 | ref p=>
  cases rx
  have e':(∃ xs,SqL X.K H p xs/\n=xs.length)\/∃ xs,SqT X.K H p xs/\n=xs.length:=e
  rcases e' with ⟨xs,hx,e'⟩|⟨xs,hx,e'⟩
  ·subst e'
   obtain ⟨its,r',pl,hz⟩:=I.list hx
   have hlen:=r'.length
   exact Calls.call_len_list pl.isList (by simp only[List.size_toArray];omega) ⟨.int xs.length,H,I.tok _,⟨_,by simp only[List.size_toArray];rw[hlen]⟩,q⟩
  ·subst e'
   obtain ⟨its,r',pl,hz⟩:=I.tuple hx
   have hlen:=r'.length
   exact len_tuple pl (by simp only[List.size_toArray];omega) ⟨.int xs.length,H,I.tok _,⟨_,by simp only[List.size_toArray];rw[hlen]⟩,q⟩
 | _=>exact (show False from e).elim
end
end L2
namespace L2
open PySem PySem.Spec PyProof.Rows
structure ObjM(h:Heap)(x dx C:Addr)(mA:Str->Option Value):Prop where
 obj:h.get? x=some (PySem.W.instObj C dx)
 ns:h.Ns1 dx mA
 ne:dx≠x
theorem p9{h:Heap}{dx:Addr}{mA:Str->Option Value}(n:h.Ns1 dx mA):∃ od,h.get? dx=some od/\∀ name,PySem.W.lookIn name od=some (mA name):=by
 obtain ⟨o,es,ep,ho,hd,hk,_,hm⟩:=n
 refine ⟨o,ho,fun name=>?_⟩
 have e:=hm name
 unfold nsFind findBy at e
 rw[<-Array.find?_toList] at e
 unfold PySem.W.lookIn
 rw[hd]
 dsimp only
 split
 ·rename_i y q
  rw[q] at e
  exact congrArg some e
 ·rename_i q
  rw[q] at e
  have a:es.toList.any (·.refKey)=false:=by
   rw[List.any_eq_false]
   intro y hy
   obtain ⟨z,t,hkey⟩:=hk y (Array.mem_toList_iff.mp hy)
   simp[DictEntry.refKey,hkey]
  have a':¬ es.toList.any (·.refKey)=true:=by rw[a];exact Bool.false_ne_true
  rw[if_neg a']
  exact congrArg some e
theorem ObjM.look{h:Heap}{x dx C:Addr}{mA:Str->Option Value}(I:ObjM h x dx C mA):∃ od,PySem.W.InstAt h x (PySem.W.instObj C dx) C (some od)/\∀ name,PySem.W.lookIn name od=some (mA name):=
 let ⟨od,ho,hl⟩:=p9 I.ns
 ⟨od,⟨I.obj,rfl,rfl,ho⟩,hl⟩
section
variable{prog:Program}{w:World}{A:Around}{E:Value->Shared->Prop}{s:Shared}{K:Frag}{x dx C f:Addr}{mA:Str->Option Value}{name:Str}{v:Value}
theorem aJY{expr:Bool}{Q:Value->Shared->Prop}(X:K.In s.heap)(I:ObjM s.heap x dx C mA)(hg:PySem.W.plainGet K C name=true)(hh:PySem.W.hasDictIn K C=true)
  (ha:PySem.W.findIn K (.ref C) name=some none) (hv:mA name=some v) (hv':PySem.W.handedIn v=true) (h:Q v {s with toks:=s.toks+1}) :
  wpAny (model prog w) A (getAttr (.ref x) name expr) Q E s:=by
 obtain ⟨od,J,hl⟩:=I.look
 exact PySem.W.get_value X J (PySem.W.plainGet_of hg).1 (PySem.W.findObj_own hh ha rfl (by rw[hl,hv])) hv' h
theorem aG0{pl:Sem Bool}{Q:Value×List Value->Shared->Prop}(X:K.In s.heap)(I:ObjM s.heap x dx C mA)(hg:PySem.W.plainGet K C name=true)
  (hf:PySem.W.findIn K (.ref C) name=some (some (.ref f))) (ht:PySem.W.isFn K (.ref f)=true) (hv:mA name=none) (h:Q (.ref f,[.ref x]) s) :
  wpAny (model prog w) A (getMethod (.ref x) name pl) Q E s:=by
 obtain ⟨od,J,hl⟩:=I.look
 exact PySem.W.method_fn X J (PySem.W.plainGet_of hg).1 (PySem.W.plainGet_of hg).2 hf (beq_iff_eq.mp ht) (by show (PySem.W.lookIn name od).map (·.isSome)=some false;rw[hl,hv];rfl) h
theorem aJZ{ns:List Str}{Q:Unit->Shared->Prop}(X:K.In s.heap)(I:ObjM s.heap x dx C mA)
  (hs:PySem.W.findIn K (.ref C) "__setattr__"=some (some (.builtin "object.__setattr__"))) (hp:PySem.W.plainOver K C=true) (ht:PySem.W.takerIn K C name=some none) (hh:PySem.W.hasDictIn K C=true)
  (hw:PySem.Within mA ns) (hsz:ns.length<=sizeLine)
  (h:∀ h',ObjM h' x dx C (fun y=>if y=name then some v else mA y)->Heap.SameBut dx s.heap h'->Q () {s with heap:=h',toks:=s.toks+2}) :
  wpAny (model prog w) A (setAttr (.ref x) name v) Q E s:=by
 obtain ⟨od,J,hl⟩:=I.look
 refine PySem.W.set_plain X J hs (PySem.W.osa_open (s:={s with toks:=s.toks+1}) (r:=none) X J hp ht fun b=>?_)
 obtain ⟨cd,hc,hd'⟩:=PySem.W.any_some hh
 have hx:s.heap.get? x=some ⟨.ref C,some dx,.plain,#[]⟩:=I.obj
 refine wpAny_bind (wpAny_pure (wpAny_bind (wpAny_bind (wpAny_loadPart hx (wpAny_bind (PySem.W.Looks.here (s:={s with toks:=s.toks+1}) (PySem.W.looks_clsIn X hc) ?_))))))
 rw[hd']
 refine wpAny_pure (a:=some dx) (wpAny_bind (wpAny_pure (wpAny_bind ?_)))
 refine wpAny_nsSet1 (s:={s with toks:=s.toks+1}) I.ns fun h' hn2 hs2=>?_
 obtain ⟨oD,esD,epD,hoD,hdD,hcD⟩:=hn2.count (PySem.Within.cons name v hw)
 refine wpAny_bind (wpAny_lookBehind hoD (by rw[hdD];exact pastItsLine_dict (Nat.le_trans hcD (by rw[List.length_cons];omega))) ?_)
 exact wpAny_pure (h _ ⟨(hs2.2 _ (Ne.symm I.ne)).trans I.obj,hn2,I.ne⟩ hs2)
theorem aG1{R:Result->Shared->Prop}{vs:List Value}{kw:List (Str×Value)}(X:K.In s.heap)(hm:PySem.W.makesIn K C=true)
  (hi:PySem.W.findIn K (.ref C) "__init__"=some (some (.ref f))) (hf:PySem.W.typeIn K (.ref f)=some (.type "function"))
  (h:codeAny (model prog w) (A.under (.builtin "type.__call__" ⟨.ref C::vs,kw⟩)) (.call (.ref f) ⟨.ref (s.heap.objs.size+1)::vs,kw⟩) (PySem.W.InitBack (s.heap.objs.size+1) R)
   {s with heap:=(s.heap.push PySem.W.emptyDict).push (PySem.W.instObj C s.heap.objs.size)}) :
  codeAny (model prog w) A (.call (.ref C) ⟨vs,kw⟩) R s:=by
 obtain ⟨hh,g,d,t,os⟩:=s
 exact PySem.W.make_core (PySem.W.makes_of X hm) (PySem.W.looks_findIn X hi) (fun self=>PySem.W.bind_fn X self hf) (.inl rfl) h
end
noncomputable def iB(f:Str)(v:V):List (Str×V)->List (Str×V)
 | []=>[(f,v)]
 | (g,x)::r=>if g=f then (g,v)::r else (g,x)::iB f v r
theorem n8(f g:Str)(v:V):∀ fs:List (Str×V),(iB f v fs).lookup g=if g=f then some v else fs.lookup g
 | []=>by
  show List.lookup g [(f,v)]=_
  by_cases h:g=f
  ·have hb:(g == f)=true:=beq_iff_eq.mpr h
   simp only[List.lookup,hb,if_pos h]
  ·have hb:(g == f)=false:=beq_eq_false_iff_ne.mpr h
   simp only[List.lookup,hb,if_neg h]
 | (k,x)::r=>by
  have ih:=n8 f g v r
  rw[show iB f v ((k,x)::r)=(if k=f then (k,v)::r else (k,x)::iB f v r) from rfl]
  by_cases hk:k=f
  ·rw[if_pos hk]
   by_cases h:g=k
   ·have hb:(g == k)=true:=beq_iff_eq.mpr h
    simp only[List.lookup,hb,if_pos (h.trans hk)]
   ·have hb:(g == k)=false:=beq_eq_false_iff_ne.mpr h
    simp only[List.lookup,hb,if_neg (fun e:g=f=>h (e.trans hk.symm))]
  ·rw[if_neg hk]
   by_cases h:g=k
   ·have hb:(g == k)=true:=beq_iff_eq.mpr h
    simp only[List.lookup,hb,if_neg (fun e:g=f=>hk (h.symm.trans e))]
   ·have hb:(g == k)=false:=beq_eq_false_iff_ne.mpr h
    simp only[List.lookup,hb]
    exact ih
theorem qA(f:Str)(v:V):∀ fs:List (Str×V),f∈(iB f v fs).map (·.1)/\∀ g,g∈fs.map (·.1)->g∈(iB f v fs).map (·.1)
 | []=>⟨by simp[iB],fun g h=>by simp at h⟩
 | (k,x)::r=>by
  obtain ⟨i1,i2⟩:=qA f v r
  rw[show iB f v ((k,x)::r)=(if k=f then (k,v)::r else (k,x)::iB f v r) from rfl]
  by_cases hk:k=f
  ·rw[if_pos hk]
   subst hk
   exact ⟨by simp,fun g h=>by simpa using h⟩
  ·rw[if_neg hk]
   refine ⟨?_,fun g h=>?_⟩
   ·rw[List.map_cons]
    exact List.mem_cons_of_mem _ i1
   ·rw[List.map_cons] at h ⊢
    rcases List.mem_cons.mp h with e|e
    · exact List.mem_cons.mpr (.inl e)
    · exact List.mem_cons_of_mem _ (i2 g e)
theorem sP(f:Str)(v:V):∀ fs:List (Str×V),(iB f v fs).length<=fs.length+1
 | []=>by simp[iB]
 | (k,x)::r=>by
  have ih:=sP f v r
  rw[show iB f v ((k,x)::r)=(if k=f then (k,v)::r else (k,x)::iB f v r) from rfl]
  by_cases hk:k=f
  · rw [if_pos hk, List.length_cons, List.length_cons]; omega
  · rw [if_neg hk, List.length_cons, List.length_cons]; omega
theorem gZ.some_of{v:V}{o:Option Value}(r:gZ (some v) o):∃ u,o=some u/\bS v u:=by
 cases o with
 | none=>exact (show False from r).elim
 | some u=>exact ⟨u,rfl,r⟩
theorem gZ.none_of{o:Option Value}(r:gZ none o):o=none:=by
 cases o with
 | none=>rfl
 | some u=>exact (show False from r).elim
theorem aEX{v:V}{u:Value}(r:bS v u):PySem.W.handedIn u=true:=by
 cases v with
 | non=>cases (show u=Value.none from r);rfl
 | bl b=>cases (show u=Value.bool b from r);rfl
 | int i=>obtain ⟨t,e⟩:=(show ∃ t,u=Value.int i t from r);cases e;rfl
 | str x=>obtain ⟨t,e⟩:=(show ∃ t,u=Value.str x t from r);cases e;rfl
 | byt b=>obtain ⟨t,e⟩:=(show ∃ t,u=Value.bytes b t from r);cases e;rfl
 | flt b=>obtain ⟨t,e⟩:=(show ∃ t,u=Value.float b t from r);cases e;rfl
 | ref a=>cases (show u=Value.ref a from r);rfl
 | ty n=>cases (show u=Value.type n from r);rfl
section
variable{P:Program}{w:World}{H H':Hp}{h h':Heap}{a C dx:Addr}{fs fs':List (Str×V)}
theorem rN(hok:HOk P w H h)(e:H a=some (.ins C dx fs)):∃ mA,ObjM h a dx C mA/\(∀ f,gZ (fs.lookup f) (mA f))/\PySem.Within mA (fs.map (·.1))/\fs.length<=1000/\H dx=some (.own a):=by
 obtain ⟨d,z,ne,ob,mA,n,r,q⟩:=(show cS P w H h a (.ins C dx fs) from hok a _ e)
 exact ⟨mA,⟨ob,n,ne⟩,r,q,z,d⟩
end
structure Cls(K:Frag)(C:Addr):Prop where
 pg:PySem.W.plainGet K C Str.empty=true
 hd:PySem.W.hasDictIn K C=true
 po:PySem.W.plainOver K C=true
 sa:PySem.W.findIn K (.ref C) "__setattr__"=some (some (.builtin "object.__setattr__"))
theorem Cls.get{K:Frag}{C:Addr}(c:Cls K C)(f:Str):PySem.W.plainGet K C f=true:=c.pg
def dG(K:Frag)(C:Addr)(f:Str):Prop:=PySem.W.findIn K (.ref C) f=some none
theorem dG.taker{K:Frag}{C:Addr}{f:Str}(n:dG K C f):PySem.W.takerIn K C f=some none:=by
 unfold PySem.W.takerIn
 rw[show PySem.W.findIn K (.ref C) f=some none from n]
 rfl
structure Con(K:Frag)(C:Addr)(f:Str)(v:V)(u:Value):Prop where
 at_:PySem.W.findIn K (.ref C) f=some (some u)
 rel:bS v u
 get:PySem.W.specialIn K u "__get__"=some none
 cp:PySem.W.copiedNames.contains f=false
structure Meth(K:Frag)(C:Addr)(m:Str)(f:Addr):Prop where
 at_:PySem.W.findIn K (.ref C) m=some (some (.ref f))
 fn:PySem.W.isFn K (.ref f)=true
 kp:PySem.W.keepIn K (.ref f)=true
section
variable{X:Cx}{pins:List (Addr×Obj)}{σ:St}{H:Hp}{s:Shared}{a C dx:Addr}{fs:List (Str×V)}{f:Str}{v:V}{A:Around}{E:Value->Shared->Prop}
theorem aDI{b:Bool}{Q:Value->Shared->Prop}(I:Inv X pins σ H s)(e:H a=some (.ins C dx fs))(c:Cls X.K C)(n:dG X.K C f)(l:fs.lookup f=some v)
  (h:∀ u s',Inv X pins σ H s'->bS v u->Q u s'):wpAny (model X.prog X.w) A (getAttr (.ref a) f b) Q E s:=by
 obtain ⟨mA,O,r,_,_,_⟩:=rN I.hok e
 obtain ⟨u,hu,ru⟩:=gZ.some_of (v:=v) (o:=mA f) (by rw[<-l];exact r f)
 exact aJY I.kIn O (c.get f) c.hd n hu (aEX ru) (h u _ (I.tok _) ru)
theorem aDJ{m:Str}{g:Addr}{pl:Sem Bool}{Q:Value×List Value->Shared->Prop}(I:Inv X pins σ H s)(e:H a=some (.ins C dx fs))(c:Cls X.K C)(k:Meth X.K C m g)(l:fs.lookup m=none)
  (h:Q (.ref g,[.ref a]) s):wpAny (model X.prog X.w) A (getMethod (.ref a) m pl) Q E s:=by
 obtain ⟨mA,O,r,_,_,_⟩:=rN I.hok e
 have hn:mA m=none:=gZ.none_of (by rw[<-l];exact r m)
 exact aG0 I.kIn O (c.get m) k.at_ k.fn hn h
theorem aDK{y:V}{u:Value}{Q:Unit->Shared->Prop}(I:Inv X pins σ H s)(e:H a=some (.ins C dx fs))(c:Cls X.K C)(n:dG X.K C f)(hl:fs.length < 1000)(ry:bS y u)
  (h:∀ s',Inv X pins σ (upd H a (.ins C dx (iB f y fs))) s'->Q () s'):wpAny (model X.prog X.w) A (setAttr (.ref a) f u) Q E s:=by
 obtain ⟨mA,O,r,wi,_,ho⟩:=rN I.hok e
 have hz:(fs.map (·.1)).length<=sizeLine:=by rw[List.length_map,sizeLine_eq];omega
 refine aJZ I.kIn O c.sa c.po n.taker c.hd wi hz fun h' O' sb=>h _ ?_
 have hd:∃ o,h'.get? dx=some o:=let ⟨o,_,_,e',_⟩:=O'.ns;⟨o,e'⟩
 refine I.write (x:=a) (e:=dx) (by rw[e];exact True.intro) (.inr ho) (fun b q hb z=>(sb.2 b hb).trans z) hd ?_
 refine ⟨by rw[aP O.ne];exact ho,?_,O.ne,O'.obj,_,O'.ns,fun g=>?_,fun g hg=>?_⟩
 ·have:=sP f y fs;omega
 ·show gZ ((iB f y fs).lookup g) (if g=f then some u else mA g)
  rw[n8]
  by_cases q:g=f
  ·rw[if_pos q,if_pos q];exact ry
  ·rw[if_neg q,if_neg q];exact r g
 ·by_cases q:g=f
  ·rw[q];exact (qA f y fs).1
  ·refine (qA f y fs).2 g (wi g fun z=>hg ?_)
   show (if g=f then some u else mA g)=none
   rw[if_neg q];exact z
theorem Inv.made(I:Inv X pins σ H s):Inv X pins σ (upd (upd H s.heap.objs.size (.own (s.heap.objs.size+1))) (s.heap.objs.size+1) (.ins C s.heap.objs.size []))
  {s with heap:=(s.heap.push PySem.W.emptyDict).push (PySem.W.instObj C s.heap.objs.size)}:=by
 have e1:(s.heap.push PySem.W.emptyDict).get? s.heap.objs.size=some PySem.W.emptyDict:=Heap.get?_push_size s.heap rfl
 have e2:((s.heap.push PySem.W.emptyDict).push (PySem.W.instObj C s.heap.objs.size)).get? (s.heap.objs.size+1)=some (PySem.W.instObj C s.heap.objs.size):=by
  have:=Heap.get?_push_size (s.heap.push PySem.W.emptyDict) (o:=PySem.W.instObj C s.heap.objs.size) rfl
  rwa [Heap.size_push] at this
 have e3:(s.heap.push PySem.W.emptyDict).Ns s.heap.objs.size (fun _=>none):=⟨PySem.W.emptyDict,#[],_,e1,rfl,(fun e he=>absurd he (by simp)),fun _=>rfl⟩
 have I1:=I.laid (a:=s.heap.objs.size) (o:=.own (s.heap.objs.size+1)) (h':=s.heap.push PySem.W.emptyDict) (t':=s.toks) (fun b u q=>Heap.get?_push_of_some _ q) (Nat.le_refl _) ⟨_,e1⟩
 refine I1.laid (a:=s.heap.objs.size+1) (o:=.ins C s.heap.objs.size []) (t':=s.toks) (fun b u q=>Heap.get?_push_of_some _ q) (Nat.le_of_eq (Heap.size_push _ _)) ?_
 have ne:s.heap.objs.size≠s.heap.objs.size+1:=Nat.ne_of_lt (Nat.lt_succ_self _)
 refine ⟨by rw[aP ne,aY],Nat.zero_le _,ne,e2,fun _=>none,(Heap.Ns1.of_empty e3).at fun o q=>Heap.get?_push_of_some _ q,fun _=>True.intro,fun y hy=>absurd rfl hy⟩
theorem aJ0{prog:Program}{w:World}{env:Env}{e:Expr}{f:Str}{pos:Pos}{s:Shared}{Q:Value->Shared->Prop}(hb:attributeBase e f env (eval e env)=eval e env)
  (h:wpAny (model prog w) A (eval e env) (fun o s₁=>wpAny (model prog w) A (getAttr o f true) Q E s₁) E s):wpAny (model prog w) A (eval (.Attribute e f pos) env) Q E s:=
 Attribute_any_ h (by rw[arm_eval_Attribute,hb])
end
def aMD(K:Frag)(ta:TE)(f:Str):TE:=fun σ H Q=>ta σ H fun x H1=>∃ a C dx fs v,x=.ref a/\H1 a=some (.ins C dx fs)/\Cls K C/\dG K C f/\fs.lookup f=some v/\Q v H1
def aPQ(K:Frag)(ta tv:TE)(f:Str):TS:=fun D σ H=>tv σ H fun y H1=>ta σ H1 fun x H2=>∃ a C dx fs,x=.ref a/\H2 a=some (.ins C dx fs)/\Cls K C/\dG K C f/\fs.length < 1000 /\
 D.nx σ (upd H2 a (.ins C dx (iB f y fs)))
section
variable{X:Cx}{o e value:Expr}{f:Str}{pos pos' tpos:Pos}{ta tv:TE}
theorem jH(he:PE X e ta)(hb:attributeBase e f X.env (eval e X.env)=eval e X.env):PE X (.Attribute e f pos) (aMD X.K ta f):=by
 intro pins s σ H Q I h
 refine aJ0 hb (thn (he pins s σ H _ I h) fun u s1 zz0=>?_)
 obtain ⟨x,H1,I1,rx,a,C,dx,fs,v,ex,ea,c,n,l,q⟩:=zz0
 subst ex
 obtain rfl:u=Value.ref a:=rx
 exact aDI I1 ea c n l fun u' s2 I2 ru=>⟨v,H1,I2,ru,q⟩
theorem oE(ha:PE X o ta)(hv:PE X value tv)(hs:swapsWith value (some (.Attribute o f pos')) pos.line X.env=pure false):PS X (.Assign [.Attribute o f pos'] value pos) (aPQ X.K ta tv f):=by
 intro pins s σ H D I h
 refine plainObj_wpAny_Assign_Attribute (thn (hv pins s σ H _ I h) fun u s1 ⟨y,H1,I1,ry,q⟩=>thn (ha pins s1 σ H1 _ I1 q) fun ov s2 zz0=>?_) hs
 obtain ⟨x,H2,I2,rx,a,C,dx,fs,ex,ea,c,n,l,q2⟩:=zz0
 subst ex
 obtain rfl:ov=Value.ref a:=rx
 exact aDK I2 ea c n l ry fun s3 I3=>⟨σ,_,I3,q2⟩
theorem aBS{pl:Sem Bool}{m:Str}{apos:Pos}{args:List Expr}{pins:List (Addr×Obj)}{s:Shared}{σ:St}{H:Hp}{Q:Value->Shared->Prop}{te:TE}(he:PE X e te)(I:Inv X pins σ H s)
  (h:te σ H fun x H1=>∃ a C dx fs g,x=.ref a/\H1 a=some (.ins C dx fs)/\Cls X.K C/\Meth X.K C m g/\fs.lookup m=none /\
   ∀ s1,Inv X pins σ H1 s1->wpAny (model X.prog X.w) X.A (callWith pos (.ref g) [.ref a] (backTo pos (starEach args X.env)) (backToKw pos (keywordEach [] X.env))) Q X.xe s1)
  (ht:eval (.Call (.Attribute e m apos) args [] pos) X.env=(do
   let ov <-eval e X.env
   standAt apos.atName
   let (f,first) <-holding [ov] (getMethod ov m pl)
   callWith pos f first (backTo pos (starEach args X.env)) (backToKw pos (keywordEach [] X.env)))) :
  wpAny (model X.prog X.w) X.A (eval (.Call (.Attribute e m apos) args [] pos) X.env) Q X.xe s:=by
 refine PySem.W.methodCall_KW (pl:=pl) (thn (he pins s σ H _ I h) fun u s1 zz0=>?_) ht
 obtain ⟨x,H1,I1,rx,a,C,dx,fs,g,ex,ea,c,k,l,q⟩:=zz0
 subst ex
 obtain rfl:u=Value.ref a:=rx
 exact aDJ I1 ea c k l (q s1 I1)
end
section
variable{X:Cx}{pins:List (Addr×Obj)}{σ:St}{H:Hp}{s:Shared}{A:Around}{E:Value->Shared->Prop}{Q:Value->Shared->Prop}{c:Value}{b:Bool}
inductive TyOf(K:Frag)(H:Hp):V->Value->Prop where
 | non:TyOf K H .non (.type "NoneType")
 | bl (x:Bool):TyOf K H (.bl x) (.type "bool")
 | int (i:Int):TyOf K H (.int i) (.type "int")
 | str (x:Str):TyOf K H (.str x) (.type "str")
 | flt (x:UInt64):TyOf K H (.flt x) (.type "float")
 | lst {a:Addr} {xs:List V} (e:H a=some (.lst xs)):TyOf K H (.ref a) (.type "list")
 | frz {a:Addr} {o:Obj} {xs:List V} (e:H a=some (.frz o (.lst xs))):TyOf K H (.ref a) (.type "list")
 | tup {a:Addr} {xs:List V} (e:H a=some (.tup xs)):TyOf K H (.ref a) (.type "tuple")
 | dK {a:Addr} {kvs:List (Key×V)} (e:H a=some (.dK kvs)):TyOf K H (.ref a) (.type "dict")
 | dT {a:Addr} {kvs:List (List Key×V)} (e:H a=some (.dT kvs)):TyOf K H (.ref a) (.type "dict")
 | ins {a C dx:Addr} {fs:List (Str×V)} (e:H a=some (.ins C dx fs)) (cl:Cls K C) (ha:PySem.W.findIn K (.ref C) "__class__"=some (some (.builtin "object.__class__")))
  (hn:PySem.W.specialIn K (.builtin "object.__class__") "__get__"=some (some (.builtin "getset_descriptor.__get__"))) (htk:PySem.W.takesIn K (.builtin "object.__class__")=some true)
  (hm:PySem.W.mroIn K C (.type "object")=some true):TyOf K H (.ref a) (.ref C)
theorem aEY{x:V}{u t:Value}(I:Inv X pins σ H s)(rx:bS x u)(ty:TyOf X.K H x t)(e:PySem.W.kitOne X.K t c=some b)(h:∀ tk,Q (.bool b) {s with toks:=tk}) :
  wpAny (model X.prog X.w) A (call (.builtin "isinstance") [u,c]) Q E s:=by
 cases ty with
 | non=>cases (show u=Value.none from rx);exact PySem.W.kia_one PySem.W.kitx_none I.kIn True.intro e (fun z=>nomatch z) h
 | bl y=>cases (show u=Value.bool y from rx);exact PySem.W.kia_one PySem.W.kitx_bool I.kIn True.intro e (fun z=>nomatch z) h
 | int i=>obtain ⟨t,q⟩:=(show ∃ t,u=Value.int i t from rx);cases q;exact PySem.W.kia_one PySem.W.kitx_int I.kIn True.intro e (fun z=>nomatch z) h
 | str y=>obtain ⟨t,q⟩:=(show ∃ t,u=Value.str y t from rx);cases q;exact PySem.W.kia_one PySem.W.kitx_str I.kIn True.intro e (fun z=>nomatch z) h
 | flt y=>obtain ⟨t,q⟩:=(show ∃ t,u=Value.float y t from rx);cases q;exact PySem.W.kia_one PySem.W.kitx_float I.kIn True.intro e (fun z=>nomatch z) h
 | @lst a xs ea=>
  cases (show u=Value.ref a from rx)
  obtain ⟨_,_,n,_,h1⟩:=(show cS X.prog X.w H s.heap a (.lst xs) from I.hok a _ ea)
  exact PySem.W.kia_one PySem.W.kitx_list I.kIn ⟨_,h1,rfl⟩ e (fun z=>nomatch z) h
 | @frz a ob xs ea=>
  cases (show u=Value.ref a from rx)
  obtain ⟨_,_,_,n,_,h1⟩:=(show cS X.prog X.w H s.heap a (.frz ob (.lst xs)) from I.hok a _ ea)
  exact PySem.W.kia_one PySem.W.kitx_list I.kIn ⟨_,h1,rfl⟩ e (fun z=>nomatch z) h
 | @tup a xs ea=>
  cases (show u=Value.ref a from rx)
  obtain ⟨_,_,_,p⟩:=(show cS X.prog X.w H s.heap a (.tup xs) from I.hok a _ ea)
  obtain ⟨o,h1,h2,_⟩:=p
  exact PySem.W.kia_one PySem.W.kitx_tuple I.kIn ⟨o,h1,h2⟩ e (fun z=>nomatch z) h
 | @dK a kvs ea=>
  cases (show u=Value.ref a from rx)
  obtain ⟨_,_,vs,_,p⟩:=(show cS X.prog X.w H s.heap a (.dK kvs) from I.hok a _ ea)
  obtain ⟨o,es,ep,h1,h2,_⟩:=p
  exact PySem.W.kia_one PySem.W.kitx_dict I.kIn ⟨o,h1,h2.1⟩ e (fun z=>nomatch z) h
 | @dT a kvs ea=>
  cases (show u=Value.ref a from rx)
  obtain ⟨_,_,xs,_,o,es,ep,h1,h2,_⟩:=(show cS X.prog X.w H s.heap a (.dT kvs) from I.hok a _ ea)
  exact PySem.W.kia_one PySem.W.kitx_dict I.kIn ⟨o,h1,h2.1⟩ e (fun z=>nomatch z) h
 | @ins a C dx fs ea cl ha hn htk hm=>
  cases (show u=Value.ref a from rx)
  obtain ⟨mA,O,_⟩:=rN I.hok ea
  obtain ⟨od,J,_⟩:=O.look
  exact PySem.W.kia_one (PySem.W.kitx_own (cl.get _) cl.hd ha hn htk hm) I.kIn J e (fun z=>nomatch z) h
end
end L2
namespace L2
open PySem PySem.Spec PyProof.Rows
structure Room(k:Nat)(A:Around):Prop where
 hd:A.handled=none
 dp:A.depth+3 * k+5 < recursionLimit
 un:A.units+16 * k+200 < cLine
theorem Room.mono{j k:Nat}{A:Around}(r:Room k A)(h:j<=k):Room j A:=⟨r.hd,by have:=r.dp;omega,by have:=r.un;omega⟩
theorem Room.deeper{k:Nat}{A:Around}(r:Room (k+1) A)(env:Env):Room k (A.deeper env):=
 ⟨r.hd,by have:=r.dp;show A.depth+1+3 * k+5 < _;omega,by have:=r.un;show A.units+3+16 * k+200 < _;omega⟩
theorem aDL{A:Around}{C:Addr}{us:List Value}{kw:List (Str×Value)}:(A.under (.builtin "type.__call__" ⟨.ref C::us,kw⟩)).depth=A.depth+1:=by
 first|rfl|simp[Around.under,Code.weight,Code.isCreation,Code.isGuard,Code.isCaller,Code.frames,Code.isFrame,guardIds]
theorem aDM{A:Around}{C:Addr}{us:List Value}{kw:List (Str×Value)}:(A.under (.builtin "type.__call__" ⟨.ref C::us,kw⟩)).units=A.units+1:=by
 first|rfl|simp[Around.under,Code.cUnits,Code.frames,Code.isFrame]
theorem Room.make{k:Nat}{A:Around}(r:Room (k+1) A)(C:Addr)(us:List Value)(kw:List (Str×Value)):Room k (A.under (.builtin "type.__call__" ⟨.ref C::us,kw⟩)):=
 ⟨r.hd,by have:=r.dp;rw[aDL];omega,by have:=r.un;rw[aDM];omega⟩
theorem Room.depth{k:Nat}{A:Around}(r:Room k A):A.depth < recursionLimit:=by have:=r.dp;omega
theorem Room.units{k:Nat}{A:Around}(r:Room k A):A.units+64 < cLine:=by have:=r.un;omega
def gG:TA:=fun _ H Q=>Q [] H
def dY(ta:TE)(tr:TA):TA:=fun σ H Q=>ta σ H fun x H1=>tr σ H1 fun xs H2=>Q (x::xs) H2
section
variable{X:Cx}{e:Expr}{es:List Expr}{te:TE}{t:TA}{pos:Pos}
theorem aU:PA X [] gG:=fun _ _ _ _ H Q I h=>Calls.spliced_nil ⟨[],H,I,.nil,h⟩
theorem aJ(ha:PE X e te)(hr:PA X es t)(hs:starEach (e::es) X.env=(false,eval e X.env)::starEach es X.env:=by rfl):PA X (e::es) (dY te t):=by
 intro pos pins s σ H Q I h
 rw[hs]
 show wpAny _ _ (spliced ((false,eval e X.env)::backTo pos (starEach es X.env))) _ _ s
 refine Calls.spliced_cons (thn (ha pins s σ H _ I h) fun u s1 zz0=>?_)
 obtain ⟨x,H1,I1,r1,q1⟩:=zz0
 exact thn (hr pos pins s1 σ H1 _ I1 q1) fun us s2 ⟨xs,H2,I2,r2,q2⟩=>⟨x::xs,H2,I2,.cons r1 r2,q2⟩
def aPR(t:TA):TE:=fun σ H Q=>t σ H fun xs H1=>xs.length<=sizeLine/\∀ p,H1 p=none->Q (.ref p) (upd H1 p (.tup xs))
def aME(t:TA):TE:=fun σ H Q=>t σ H fun xs H1=>xs.length<=sizeLine/\∀ p,H1 p=none->Q (.ref p) (upd H1 p (.lst xs))
theorem aMF{x1}(h:PA X es t):PE X (.Tuple es x1 pos) (aPR t):=by
 intro pins s σ H Q I hq
 refine wpAny_Tuple_spliced (thn (h pos pins s σ H _ I hq) fun us s1 ⟨xs,H1,I1,r,z,q⟩=>⟨by rw[<-r.length];exact z,?_⟩)
 have hf:H1 s1.heap.objs.size=none:=I1.hok.fresh (Nat.le_refl _)
 refine ⟨.ref s1.heap.objs.size,upd H1 s1.heap.objs.size (.tup xs),I1.laid (t':=s1.toks) (fun b u e=>Heap.get?_push_of_some _ e) (Nat.le_refl _) ?_,rfl,q _ hf⟩
 exact ⟨z,us,r,⟨_,Heap.get?_push_size _ rfl,rfl,_,rfl⟩⟩
theorem aEZ(h:PA X es t):PE X (.List es pos) (aME t):=by
 intro pins s σ H Q I hq
 refine wpAny_List_spliced (thn (h pos pins s σ H _ I hq) fun us s1 ⟨xs,H1,I1,r,z,q⟩=>⟨by rw[<-r.length];exact z,?_⟩)
 have hf:H1 s1.heap.objs.size=none:=I1.hok.fresh (Nat.le_refl _)
 refine ⟨.ref s1.heap.objs.size,upd H1 s1.heap.objs.size (.lst xs),I1.laid (t':=s1.toks) (fun b u e=>Heap.get?_push_of_some _ e) (Nat.le_refl _) ?_,rfl,q _ hf⟩
 exact ⟨z,us,0,r,Heap.get?_push_size _ rfl⟩
end
abbrev Sp:=List V->Hp->VK->XK->Prop
abbrev CXT:=List Env->Hp->Shared->XK->Value->Shared->Prop
structure Env0(P:Program)(w:World)(K:Frag)(mg:Str->Option Value)(base:Heap)(A:Around)(outer:List Env)(s:Shared)(H:Hp):Prop where
 frames:A.frames=some outer
 mod:Mod K mg base
 bs:∀ b o,base.get? b=some o->s.heap.get? b=some o/\H b=none
 bsz:base.objs.size<=s.heap.objs.size
 funs:s.heap.FunFrames base outer
 frf:∀ b∈frs outer,H b=none
 hok:HOk P w H s.heap
 bare:AllBare s.gens
def CE(outer:List Env)(P:Program)(w:World)(H:Hp)(s:Shared)(Q:VK)(u:Value)(s':Shared):Prop:=
 ∃ v H',s'.os=s.os/\AllBare s'.gens/\Un (frs outer) [] H H' s.heap s'.heap/\HOk P w H' s'.heap/\bS v u/\Q v H'
def CR(CX:CXT)(outer:List Env)(P:Program)(w:World)(H:Hp)(s:Shared)(Q:VK)(E:XK)(r:Result)(s':Shared):Prop:=
 match r with
 | .ok (.ret u)=>CE outer P w H s Q u s'
 | .ok _=>False
 | .error e=>CX outer H s E e s'
structure FnOk(P:Program)(w:World)(K:Frag)(mg:Str->Option Value)(base:Heap)(CX:CXT)(k:Nat)(f:Addr)(fd:FuncData)(ps:List Str)(sp:Sp):Prop where
 len:∀ vs H Q E,sp vs H Q E->vs.length=ps.length
 run:∀ (A:Around) (outer:List Env) (s:Shared) (H:Hp) (args:Args) (us:List Value) (vs:List V) (Q:VK) (E:XK),Room k A->Env0 P w K mg base A outer s H->BindsTo s fd args (ps.zip us)->bJ vs us->sp vs H Q E->
  codeAny (model P w) A (.call (.ref f) args) (CR CX outer P w H s Q E) s
theorem FnOk.imp{P:Program}{w:World}{K:Frag}{mg:Str->Option Value}{base:Heap}{CX:CXT}{k:Nat}{f:Addr}{fd:FuncData}{ps:List Str}{sp sp':Sp}(F:FnOk P w K mg base CX k f fd ps sp)
  (h:∀ vs H Q E,sp' vs H Q E->sp vs H Q E):FnOk P w K mg base CX k f fd ps sp':=
 ⟨fun vs H Q E q=>F.len vs H Q E (h _ _ _ _ q),fun A outer s H args us vs Q E hr he hb hv hs=>F.run A outer s H args us vs Q E hr he hb hv (h _ _ _ _ hs)⟩
theorem Env0.make{P:Program}{w:World}{K:Frag}{mg:Str->Option Value}{base:Heap}{A:Around}{outer:List Env}{s:Shared}{H:Hp}(e:Env0 P w K mg base A outer s H)(C:Addr)(us:List Value)(kw:List (Str×Value)) :
 Env0 P w K mg base (A.under (.builtin "type.__call__" ⟨.ref C::us,kw⟩)) outer s H:=⟨by first|exact e.frames|(simpa[Around.under,Code.envs,Code.isFrame,pushEnvs] using e.frames),e.mod,e.bs,e.bsz,e.funs,e.frf,e.hok,e.bare⟩
section
variable{X:Cx}{pins:List (Addr×Obj)}{σ:St}{H:Hp}{s s':Shared}
theorem Inv.env0(I:Inv X pins σ H s):Env0 X.prog X.w X.K X.mg X.base X.A X.stack s H:=
 ⟨I.ok.frames,I.ok.mod,I.bs,Nat.le_trans I.ok.bsz I.sz,I.stack,I.stkFree,I.hok,I.bare⟩
theorem Inv.after{Q:VK}{u:Value}(I:Inv X pins σ H s)(h:CE X.stack X.prog X.w H s Q u s'):EP X pins σ Q u s':=by
 obtain ⟨v,H',os,bare,un,hok,r,q⟩:=h
 obtain ⟨hh,g,d,t,os'⟩:=s'
 obtain rfl:os'=s.os:=os
 exact ⟨v,H',I.call (h':=hh) (g':=g) (d':=d) (t':=t) (ch:=[]) un hok bare (fun b z=>absurd z (by simp)),r,q⟩
end
def t7(sp:Sp)(dvs:List V)(E:XK)(t:TA):TE:=fun σ H Q=>t σ H fun vs H1=>sp (vs++dvs) H1 Q E
def aI3(C:Addr)(sp:Sp)(dvs:List V)(E:XK)(t:TA):TE:=fun σ H Q=>t σ H fun vs H1=>∀ x dx,H1 x=none->H1 dx=none->dx≠x->
 sp (.ref x::(vs++dvs)) (upd (upd H1 dx (.own x)) x (.ins C dx [])) (fun v H2=>v=.non/\Q (.ref x) H2) E
def dC(K:Frag)(fd:FuncData)(ps:List Str)(ds:List Value):Prop:=
 ∀ (s:Shared) (us:List Value),K.In s.heap->(us++ds).length=ps.length->BindsTo s fd ⟨us,[]⟩ (ps.zip (us++ds))
theorem dC.all{K:Frag}{fd:FuncData}{ps:List Str}(h:∀ us:List Value,us.length=ps.length->bindArgs fd ⟨us,[]⟩=pure (ps.zip us)):dC K fd ps []:=fun s us _ hl=>by
 rw[List.append_nil] at hl ⊢
 exact .of_eq (h us hl)
def jI(CX:CXT)(X:Cx)(E:XK):Prop:=∀ (pins:List (Addr×Obj)) (σ:St) (H:Hp) (s:Shared) (e:Value) (s':Shared),Inv X pins σ H s->CX X.stack H s E e s'->X.xe e s'
section
variable{X:Cx}{CX:CXT}{k:Nat}{f C:Addr}{fd:FuncData}{ps:List Str}{sp:Sp}{dvs:List V}{ds:List Value}{E:XK}{x m:Str}{p pos apos:Pos}{e o:Expr}{es:List Expr}{ta:TE}{t:TA}
theorem zD{pins:List (Addr×Obj)}{σ:St}{H:Hp}{s:Shared}{Q:VK}{us:List Value}{vs:List V}(F:FnOk X.prog X.w X.K X.mg X.base CX k f fd ps sp)(hr:Room k X.A)(hb:dC X.K fd ps ds)(hd:bJ dvs ds)(hx:jI CX X E)
  (I:Inv X pins σ H s) (r:bJ vs us) (h:sp (vs++dvs) H Q E):wpAny (model X.prog X.w) X.A (call (.ref f) us) (EP X pins σ Q) X.xe s:=by
 have r2:bJ (vs++dvs) (us++ds):=r.append hd
 have hl:(us++ds).length=ps.length:=by rw[<-r2.length];exact F.len _ _ _ _ h
 refine wpAny_call (codeAny_mono (F.run X.A X.stack s H ⟨us,[]⟩ (us++ds) (vs++dvs) Q E hr I.env0 (hb s us I.kIn hl) r2 h) fun r s' hq=>?_)
 cases r with
 | error e=>exact hx pins σ H s e s' I hq
 | ok fl=>
  cases fl with
  | ret u=>exact I.after hq
  | next=>exact False.elim hq
  | brk=>exact False.elim hq
  | cont=>exact False.elim hq
theorem aJ1(F:FnOk X.prog X.w X.K X.mg X.base CX k f fd ps sp)(hr:Room k X.A)(hg:Gl X x)(hm:X.mg x=some (.ref f))(hk:PySem.W.keepIn X.K (.ref f)=true)(hb:dC X.K fd ps ds)(hd:bJ dvs ds)(hx:jI CX X E)
  (ha:PA X (e::es) t) (hdb:(x == ("__debug__":Str))=false:=by decide) (he:starEach (e::es) X.env=(false,eval e X.env)::starEach es X.env:=by rfl) (hpl:(backTo pos (starEach es X.env)).any (·.1)=false:=by rfl) :
  PE X (.Call (.Name x p) (e::es) [] pos) (t7 sp dvs E t):=by
 intro pins s σ H Q I h
 refine wpAny_Call_Name_kw (rM I hg hm ?_ hdb)
 refine PySem.W.callWith_K (h₀:=X.base) I.ok.mod.kin hk (thn (ha pos pins s σ H _ I h) fun us s1 ⟨vs,H1,I1,r,q⟩=>⟨I1.kIn,?_⟩) he hpl
 exact zD F hr hb hd hx I1 r q
structure Mk(K:Frag)(C f:Addr):Prop where
 makes:PySem.W.makesIn K C=true
 init:PySem.W.findIn K (.ref C) "__init__"=some (some (.ref f))
 fn:PySem.W.isFn K (.ref f)=true
 kp:PySem.W.keepIn K (.ref C)=true
theorem aG2{pins:List (Addr×Obj)}{σ:St}{H:Hp}{s:Shared}{Q:VK}{us:List Value}{vs:List V}(M:Mk X.K C f)(F:FnOk X.prog X.w X.K X.mg X.base CX k f fd ps sp)(hr:Room (k+1) X.A)(hb:dC X.K fd ps ds)(hd:bJ dvs ds)
  (hx:jI CX X E) (I:Inv X pins σ H s) (r:bJ vs us)
  (h:∀ x dx,H x=none->H dx=none->dx≠x->sp (.ref x::(vs++dvs)) (upd (upd H dx (.own x)) x (.ins C dx [])) (fun v H2=>v=.non/\Q (.ref x) H2) E) :
  wpAny (model X.prog X.w) X.A (call (.ref C) us) (EP X pins σ Q) X.xe s:=by
 have hq:=h (s.heap.objs.size+1) s.heap.objs.size (I.hok.fresh (Nat.le_succ _)) (I.hok.fresh (Nat.le_refl _)) (Nat.ne_of_lt (Nat.lt_succ_self _))
 have I2:=Inv.made (C:=C) I
 have r2:bJ (V.ref (s.heap.objs.size+1)::(vs++dvs)) (Value.ref (s.heap.objs.size+1)::(us++ds)):=.cons rfl (r.append hd)
 have hl:(Value.ref (s.heap.objs.size+1)::us++ds).length=ps.length:=by
  have e:=r2.length
  rw[F.len _ _ _ _ hq] at e
  exact e.symm
 refine wpAny_call (aG1 (f:=f) I.kIn M.makes M.init (beq_iff_eq.mp M.fn) (codeAny_mono (F.run _ X.stack _ _ ⟨Value.ref (s.heap.objs.size+1)::us,[]⟩ (Value.ref (s.heap.objs.size+1)::(us++ds)) _ _ E (hr.make C us [])
  (I2.env0.make C us []) (hb _ (Value.ref (s.heap.objs.size+1)::us) I2.kIn hl) r2 hq) fun r s' hq'=>?_))
 cases r with
 | error e=>exact hx pins σ _ _ e s' I2 hq'
 | ok fl=>
  cases fl with
  | ret u=>
   obtain ⟨v,H',I3,rv,ev,q3⟩:=I2.after hq'
   subst ev
   exact ⟨rv,⟨V.ref (s.heap.objs.size+1),H',I3,rfl,q3⟩⟩
  | next=>exact False.elim hq'
  | brk=>exact False.elim hq'
  | cont=>exact False.elim hq'
theorem aJ2(M:Mk X.K C f)(F:FnOk X.prog X.w X.K X.mg X.base CX k f fd ps sp)(hr:Room (k+1) X.A)(hg:Gl X x)(hm:X.mg x=some (.ref C))(hb:dC X.K fd ps ds)(hd:bJ dvs ds)(hx:jI CX X E)
  (ha:PA X (e::es) t) (hdb:(x == ("__debug__":Str))=false:=by decide) (he:starEach (e::es) X.env=(false,eval e X.env)::starEach es X.env:=by rfl) (hpl:(backTo pos (starEach es X.env)).any (·.1)=false:=by rfl) :
  PE X (.Call (.Name x p) (e::es) [] pos) (aI3 C sp dvs E t):=by
 intro pins s σ H Q I h
 refine wpAny_Call_Name_kw (rM I hg hm ?_ hdb)
 refine PySem.W.callWith_K (h₀:=X.base) I.ok.mod.kin M.kp (thn (ha pos pins s σ H _ I h) fun us s1 ⟨vs,H1,I1,r,q⟩=>⟨I1.kIn,?_⟩) he hpl
 exact aG2 M F hr hb hd hx I1 r q
end
section
variable{X:Cx}{CX:CXT}{k:Nat}{f C:Addr}{fd:FuncData}{ps ks:List Str}{sp:Sp}{E:XK}{x m:Str}{p pos apos kpos:Pos}{e o:Expr}{es:List Expr}{kws:List Keyword}{te ta:TE}{t tk:TA}{nm:Option Str}
structure KBinds(K:Frag)(fd:FuncData)(ps ks:List Str)(g:List Value->List Value->List Value)(gV:List V->List V->List V):Prop where
 to:∀ (s:Shared) (us ws:List Value),K.In s.heap->(g us ws).length=ps.length->BindsTo s fd ⟨us,ks.zip ws⟩ (ps.zip (g us ws))
 rel:∀ {vs:List V} {us:List Value} {zs:List V} {ws:List Value},bJ vs us->bJ zs ws->bJ (gV vs zs) (g us ws)
variable{g:List Value->List Value->List Value}{gV:List V->List V->List V}
end
structure FnScope(N P:List Str)(sc:Scope):Prop where
 kind:sc.kind=.function
 co:sc.isCoroutine=false
 gen:sc.isGenerator=false
 nd:N.Nodup
 pre:N.take P.length=P
 par:∀ x∈P,sc.names.lookup x=some .local\/sc.names.lookup x=some .cell
 nofree:∀ y∈sc.names,y.2≠.free
theorem w8{kindOf:Str->Option NameKind}{x:Str}:∀ {binds:List (Str×Value)} {m:Str->Option Value},(∀ v,(x,v)∉binds)->bindL kindOf binds m x=m x
 | [],_,_=>rfl
 | (n,v)::r,m,h=>by
  unfold bindL
  rw[w8 fun w hw=>h w (List.mem_cons_of_mem _ hw)]
  split
  ·have:x≠n:=by rintro rfl;exact h v List.mem_cons_self
   simp[this]
  ·rfl
theorem w9{kindOf:Str->Option NameKind}{x:Str}:∀ {binds:List (Str×Value)} {m:Str->Option Value},(∀ v,(x,v)∉binds)->bindC kindOf binds m x=m x
 | [],_,_=>rfl
 | (n,v)::r,m,h=>by
  unfold bindC
  rw[w9 fun w hw=>h w (List.mem_cons_of_mem _ hw)]
  split
  ·rfl
  ·have:x≠n:=by rintro rfl;exact h v List.mem_cons_self
   simp[this]
theorem xA{kindOf:Str->Option NameKind}{x:Str}{v:Value}:∀ {P:List Str} {vs:List Value} {i:Nat} {m:Str->Option Value},P.Nodup->P[i]? = some x->vs[i]? = some v->kindOf x=some .local->
  bindL kindOf (P.zip vs) m x=some v
 | [],_,_,_,_,h,_,_=>by simp at h
 | _::_,[],_,_,_,_,h,_=>by simp at h
 | p::P,w::vs,0,m,nd,h1,h2,hk=>by
  simp at h1 h2;subst h1;subst h2
  show bindL kindOf ((p,w)::P.zip vs) m p=_
  unfold bindL
  rw[w8 fun v hv=>(List.nodup_cons.mp nd).1 (List.of_mem_zip hv).1,if_pos hk]
  simp
 | p::P,w::vs,i+1,m,nd,h1,h2,hk=>by
  show bindL kindOf ((p,w)::P.zip vs) m x=_
  unfold bindL
  exact xA (i:=i) (List.nodup_cons.mp nd).2 (by simpa using h1) (by simpa using h2) hk
theorem xB{kindOf:Str->Option NameKind}{x:Str}{v:Value}:∀ {P:List Str} {vs:List Value} {i:Nat} {m:Str->Option Value},P.Nodup->P[i]? = some x->vs[i]? = some v->kindOf x≠some .local->
  bindC kindOf (P.zip vs) m x=some v
 | [],_,_,_,_,h,_,_=>by simp at h
 | _::_,[],_,_,_,_,h,_=>by simp at h
 | p::P,w::vs,0,m,nd,h1,h2,hk=>by
  simp at h1 h2;subst h1;subst h2
  show bindC kindOf ((p,w)::P.zip vs) m p=_
  unfold bindC
  rw[w9 fun v hv=>(List.nodup_cons.mp nd).1 (List.of_mem_zip hv).1,if_neg hk]
  simp
 | p::P,w::vs,i+1,m,nd,h1,h2,hk=>by
  show bindC kindOf ((p,w)::P.zip vs) m x=_
  unfold bindC
  exact xB (i:=i) (List.nodup_cons.mp nd).2 (by simpa using h1) (by simpa using h2) hk
noncomputable def start(N:List Str)(vs:List V):St:=vs.map some++List.replicate (N.length - vs.length) none
noncomputable def i7(CX:CXT)(P:Program)(w:World)(K:Frag)(mg:Str->Option Value)(base:Heap)(N:List Str)(qual:Str)(scope:Scope)(f:Addr)(cd:Value)(A:Around)(outer:List Env)(s:Shared)(H:Hp)(E:XK):Cx where
 prog:=P
 w:=w
 K:=K
 mg:=mg
 base:=base
 A:=A.deeper (envOfC qual scope s.heap.objs.size f cd)
 N:=N
 s₀:=s
 H₀:=H
 env:=envOfC qual scope s.heap.objs.size f cd
 outer:=outer
 stack:=envOfC qual scope s.heap.objs.size f cd::outer
 ex:=[]
 calm:=true
 fn:=fun _=>true
 pn:=[]
 xe:=fun e s'=>wpAny (model P w) (A.deeper (envOfC qual scope s.heap.objs.size f cd)) (leaving (envOfC qual scope s.heap.objs.size f cd) e) (fun _ s''=>CX outer H s E e s'') (fun e' s''=>CX outer H s E e' s'') s'
theorem zE{sc:Scope}{n:Nat}{x:Str}(h:sc.names.lookup x=some .cell):∃ c,(cellsFrom n sc.names []).lookup x=some c:=by
 have q:=PySem.W.cellsFrom_some sc.names n [] (.inl h)
 exact Option.isSome_iff_exists.mp q
theorem aE0{CX:CXT}{P:Program}{w:World}{K:Frag}{mg:Str->Option Value}{base:Heap}{N ps:List Str}{qual:Str}{scope:Scope}{f:Addr}{cd:Value}{A:Around}{outer:List Env}{s s1:Shared}{H:Hp}{E:XK}{us:List Value}{vs:List V}
  (S:FnScope N ps scope) (hd:A.handled=none) (e0:Env0 P w K mg base A outer s H) (hl:vs.length=ps.length) (r:bJ vs us)
  (x:InCallC s s.heap.objs.size (bindL (envOfC qual scope s.heap.objs.size f cd).kindOf (ps.zip us) fun _=>none) (cellsFrom (s.heap.objs.size+1) scope.names []) (bindC (envOfC qual scope s.heap.objs.size f cd).kindOf (ps.zip us) fun _=>none) s1) :
  Inv (i7 CX P w K mg base N qual scope f cd A outer s H E) [] (start N vs) H s1:=by
 have hpl:ps.length<=N.length:=by have:=congrArg List.length S.pre;rw[List.length_take] at this;omega
 obtain ⟨h1,tk,rfl,hk⟩:=x.done
 have noA:∀ b:Addr,b∉(i7 CX P w K mg base N qual scope f cd A outer s H E).ex:=fun b z=>absurd (show b∈([]:List Addr) from z) (by simp)
 refine ⟨⟨e0.mod,S.kind,rfl,rfl,Nat.le_refl _,fun y z c h1 h2=>?_,fun y hy=>?_,fun y c _ h=>?_,fun _=>hd,Around.frames_deeper e0.frames,.inr ⟨rfl,rfl⟩,fun b z=>absurd z (noA b),e0.bs,e0.bsz,fun b _ _=>noA b,fun b z=>absurd z (noA b),e0.funs,e0.frf⟩,
  rfl,e0.bare,Un.kept hk,⟨_,x.toInCall.ns,fun i y v h1 h2 h3=>?_⟩,fun y c h=>⟨_,x.cell y c h⟩,e0.hok.fresh (Nat.le_refl _),fun y c h=>?_,fun p hp=>absurd (show p∈([]:List (Addr×Obj)) from hp) (by simp),e0.hok.kept hk,?_⟩
 ·exact name_of_addr x.apart (PySem.mem_of_lookup h1) (PySem.mem_of_lookup h2)
 ·have hy:scope.names.lookup y=some .cell\/scope.names.lookup y=some .free:=hy
  rcases hy with hy|hy
  ·exact zE hy
  ·exact absurd rfl (S.nofree _ (PySem.mem_of_lookup hy))
 ·exact Nat.le_of_lt (x.above y c (PySem.mem_of_lookup h))
 ·have hi:i < vs.length:=by
   unfold start at h2
   by_cases hi:i < vs.length
   ·exact hi
   ·rw[List.getElem?_append_right (by simpa using hi)] at h2
    rw[List.getElem?_replicate] at h2
    split at h2<;>cases h2
  have ha:vs[i]? = some v:=by
   unfold start at h2
   rw[List.getElem?_append_left (by simpa using hi),List.getElem?_map] at h2
   cases e:vs[i]? with
   | none=>rw[e] at h2;cases h2
   | some a=>rw[e] at h2;cases h2;rfl
  obtain ⟨u,hu,rv⟩:=r.get ha
  have hp:ps[i]? = some y:=by
   rw[<-S.pre,List.getElem?_take_of_lt (by omega)];exact h1
  have ndP:ps.Nodup:=by rw[<-S.pre];exact S.nd.sublist (List.take_sublist _ _)
  refine ⟨u,rv,?_⟩
  rcases S.par y (List.mem_of_getElem? hp) with k|k
  ·exact .inl ⟨k,xA ndP hp hu k⟩
  ·obtain ⟨c,e⟩:=zE (n:=s.heap.objs.size+1) k
   refine .inr ⟨.inl k,c,e,?_⟩
   have q:=x.cell y c e
   rw[xB ndP hp hu (by show scope.names.lookup y≠_;rw[k];decide)] at q
   exact q
 ·exact e0.hok.fresh (Nat.le_of_lt (x.above y c (PySem.mem_of_lookup h)))
 ·unfold start
  show _=N.length
  rw[List.length_append,List.length_map,List.length_replicate]
  omega
theorem aI4{CX:CXT}{P:Program}{w:World}{K:Frag}{mg:Str->Option Value}{base:Heap}{k:Nat}{f:Addr}{name qual:Str}{params:Arguments}{body:List Stmt}{scope:Scope}{dV kV doc pm cdv ct oc:Value}{an od:Option Addr}
  {osl:Array (Option Value)} {N ps:List Str} {sp:Sp} (lk:K.lookup f=some ⟨oc,od,.func (PySem.W.fnOf name qual params body scope dV kV doc pm an cdv ct),osl⟩) (hcd:PySem.W.codeIn K cdv qual=true) (S:FnScope N ps scope)
  (len:∀ vs H Q E,sp vs H Q E->vs.length=ps.length)
  (hbody:∀ (A:Around) (outer:List Env) (s:Shared) (H:Hp) (vs:List V) (Q:VK) (E:XK),Room k (A.deeper (envOfC qual scope s.heap.objs.size f cdv))->sp vs H Q E->
   ∃ t,PSs (i7 CX P w K mg base N qual scope f cdv A outer s H E) body t/\t {nx:=fun _ H'=>Q .non H',rt:=Q} (start N vs) H) :
  FnOk P w K mg base CX (k+1) f (PySem.W.fnOf name qual params body scope dV kV doc pm an cdv ct) ps sp:=by
 refine ⟨len,fun A outer s H args us vs Q E hr e0 hb r hsp=>?_⟩
 have hl:=len _ _ _ _ hsp
 have KX:K.In s.heap:=e0.mod.kin.keeps fun b o e=>(e0.bs b o e).1
 have lim:s.heap.NoLimit:=e0.mod.nolimit.keeps fun b o e=>(e0.bs b o e).1
 have hkind:∀ y∈ps.zip us,scope.names.lookup y.1=some .local\/(scope.names.lookup y.1=some .cell/\((cellsFrom (s.heap.objs.size+1) scope.names []).lookup y.1).isSome=true):=fun zz0 hy=>by
  obtain ⟨n,v⟩:=zz0
  rcases S.par n (List.of_mem_zip hy).1 with q|q
  ·exact .inl q
  ·exact .inr ⟨q,PySem.W.cellsFrom_some _ _ _ (.inl q)⟩
 refine codeAny_call_function hr.depth (KX _ _ lk) rfl S.co S.gen rfl (PySem.W.codeRec_of KX hcd) (hb _ _ _ _ ?_)
 refine wpAny_newFunctionEnv_cells S.kind hkind fun env he s1 x=>?_
 subst he
 refine ⟨lim.keeps x.toInCall.keep,codeAny_func ?_⟩
 obtain ⟨t,ht,hq⟩:=hbody A outer s H vs Q E (hr.deeper _) hsp
 have I:Inv (i7 CX P w K mg base N qual scope f cdv A outer s H E) [] (start N vs) H s1:=aE0 S hr.hd e0 hl r x
 refine wpAny_mono (ht [] s1 (start N vs) H _ I hq) (fun fl s' hs=>?_) fun e s' hs=>hs
 have fin:∀ {σ':St} {H':Hp} {v:V} {u:Value},Inv (i7 CX P w K mg base N qual scope f cdv A outer s H E) [] σ' H' s'->bS v u->Q v H'->CE outer P w H s Q u s':=
  fun {σ' H' v u} J rv q=>⟨v,H',J.os,J.bare,J.base,J.hok,rv,q⟩
 cases fl with
 | ret u=>
  obtain ⟨v,σ',H',J,rv,q⟩:=hs
  exact fin J rv q
 | next=>
  obtain ⟨σ',H',J,q⟩:=hs
  exact fin (v:=V.non) (u:=Value.none) J rfl q
 | brk=>
  obtain ⟨_,_,_,q⟩:=hs
  exact False.elim q
 | cont=>
  obtain ⟨_,_,_,q⟩:=hs
  exact False.elim q
end L2
namespace L2
open PySem PySem.Spec PyProof.Rows
section
variable{X:Cx}{x:Str}{p pos:Pos}{e:Expr}{es:List Expr}{t:TA}{id T:String}{r:List V->Hp->VK->Prop}
def tCB(r:List V->Hp->VK->Prop)(t:TA):TE:=fun σ H Q=>t σ H fun vs H1=>r vs H1 Q
theorem bP(hc:jO X (.builtin id) r)(hg:Gl X x)(hm:X.mg x=none)(hv:bootBuiltins x=some (.builtin id))(ha:PA X (e::es) t)(hn:x≠"__name__":=by decide)(hdb:(x == ("__debug__":Str))=false:=by decide)
  (he:starEach (e::es) X.env=(false,eval e X.env)::starEach es X.env:=by rfl) (hpl:(backTo pos (starEach es X.env)).any (·.1)=false:=by rfl):PE X (.Call (.Name x p) (e::es) [] pos) (tCB r t):=by
 intro pins s σ H Q I h
 refine wpAny_Call_Name_kw (lL I hg hm hv ?_ hn hdb)
 exact PyProof.Rows.callWith_builtin1 (thn (ha pos pins s σ H _ I h) fun us s1 ⟨vs,H1,I1,r1,q1⟩=>hc pins s1 σ H1 vs us Q I1 r1 q1) he hpl
theorem cZ(hc:jO X (.type T) r)(hg:Gl X x)(hm:X.mg x=none)(hv:bootBuiltins x=some (.type T))(ha:PA X (e::es) t)(hn:x≠"__name__":=by decide)(hdb:(x == ("__debug__":Str))=false:=by decide)
  (he:starEach (e::es) X.env=(false,eval e X.env)::starEach es X.env:=by rfl) (hpl:(backTo pos (starEach es X.env)).any (·.1)=false:=by rfl):PE X (.Call (.Name x p) (e::es) [] pos) (tCB r t):=by
 intro pins s σ H Q I h
 refine wpAny_Call_Name_kw (lL I hg hm hv ?_ hn hdb)
 exact PyProof.Rows.callWith_type1 (thn (ha pos pins s σ H _ I h) fun us s1 ⟨vs,H1,I1,r1,q1⟩=>hc pins s1 σ H1 vs us Q I1 r1 q1) he hpl
end
end L2
namespace HT
open PySem PyProof.Rows
section
open PySem.SeqAt
open PySem.AutoSeq1 (wpAny_loadPart')
open PySem.MeetsSeq PySem.MeetsSeq2 PySem.MeetsSeq3
end
section
variable{prog:Program}{w:World}{A:Around}{E:Value->Shared->Prop}{s:Shared}
theorem aJ3{t b:Addr}{vs ws:List Value}{Q:Value->Shared->Prop}(ht:IsTup s.heap t vs.toArray)(hb:IsTup s.heap b ws.toArray)(hv:vs≠[])
  (h1:ws=[]->Q (.ref t) s) (h2:ws≠[]->Q (.ref s.heap.objs.size) {s with heap:=s.heap.push {cls:=.type "tuple",data:=.seq (vs++ws).toArray}})
  (hsz:vs.length+ws.length<=sizeLine):wpAny (model prog w) A (binaryOp .Add (.ref t) (.ref b)) Q E s:=by
 obtain ⟨⟨cls,dd,data,sl⟩,ho,hc,n,hd⟩:=id ht
 obtain ⟨⟨cls2,dd2,data2,sl2⟩,ho2,hc2,n2,hd2⟩:=id hb
 simp only at hc hd hc2 hd2
 subst hc hd hc2 hd2
 have e:vs.toArray++ws.toArray=(vs++ws).toArray:=by simp
 by_cases hw:ws=[]
 ·exact concat_meets ⟨_,ho,rfl⟩ ⟨_,ho2,rfl⟩ noFill_tuple_add seq_tuple_add PySem.F.slot_tuple_add PySem.F.entry_tuple_add (PySem.F.args_tuple_add_2 _ _)
   (tuple_addW1 t b vs.toArray ws.toArray n n2 dd dd2 sl sl2 (by simpa using hv) (by simp[hw])) ⟨ho,ho2,h1 hw⟩
 ·refine concat_meets ⟨_,ho,rfl⟩ ⟨_,ho2,rfl⟩ noFill_tuple_add seq_tuple_add PySem.F.slot_tuple_add PySem.F.entry_tuple_add (PySem.F.args_tuple_add_2 _ _)
   (tuple_addW2 t b vs.toArray ws.toArray n n2 dd dd2 sl sl2 (by simpa using hv) (by simpa using hw) (by rw[List.size_toArray,List.size_toArray];exact hsz)) ⟨ho,ho2,?_⟩
  rw[e]
  exact h2 hw
noncomputable def sIx(n d:Nat):Option Int->Nat
 | none=>d
 | some v=>if v < 0 then (v+(n:Int)).toNat else min v.toNat n
theorem aG3(n d:Nat):sIx n d none=d:=rfl
theorem aJ4(n d k:Nat):sIx n d (some (k:Int))=min k n:=by
 show (if (k:Int) < 0 then ((k:Int)+(n:Int)).toNat else min (k:Int).toNat n)=min k n
 rw[if_neg (by omega),Int.toNat_natCast]
theorem aMG(n d:Nat)(hd:d<=n)(o:Option Int):sIx n d o<=n:=by
 cases o with
 | none=>exact hd
 | some v=>
  show (if v < 0 then (v+(n:Int)).toNat else min v.toNat n)<=n
  by_cases hv:v < 0
  · rw [if_pos hv]; omega
  · rw [if_neg hv]; exact Nat.min_le_right _ _
theorem aB2(v:Int)(n d:Nat):(if v < 0 then max (v+(n:Int)) 0 else min v (n:Int))=((sIx n d (some v):Nat):Int):=by
 show (if v < 0 then max (v+(n:Int)) 0 else min v (n:Int))=(((if v < 0 then (v+(n:Int)).toNat else min v.toNat n):Nat):Int)
 by_cases hv:v < 0
 · simp only [if_pos hv]; omega
 · simp only [if_neg hv]; omega
theorem aDN(lo hi:Option Int)(n:Nat):Builtin.Slice.sliceAdjust lo hi 1 (n:Int)=(((sIx n 0 lo:Nat):Int),((sIx n n hi:Nat):Int)):=by
 have h1:¬ ((1:Int) < 0):=by omega
 unfold Builtin.Slice.sliceAdjust
 simp only[h1,if_false]
 refine Prod.ext ?_ ?_
 ·cases lo with
  | none=>rfl
  | some v=>exact aB2 v n 0
 ·cases hi with
  | none=>rfl
  | some v=>exact aB2 v n n
theorem aDO(i j:Nat):Builtin.Slice.slicePlaces (i:Int) (j:Int) 1=j - i:=by
 unfold Builtin.Slice.slicePlaces
 have h1:(1:Int) > 0:=by omega
 simp only[h1,if_true,Int.ediv_one]
 split<;>omega
theorem t8{v:Value}{o:Option Int}{Q:Option Int->Shared->Prop}(p:IsPart v o)(h:Q o s):wpAny (model prog w) A (Builtin.Slice.slicePartIndex v) Q E s:=by
 cases p with
 | none=>exact slicePart_none h
 | int i t=>exact slicePart_int h
theorem sY{sl:Addr}{vl vu:Value}{lo hi:Option Int}{n:Nat}{Q:Int×Int×Nat->Shared->Prop}(hs:s.heap.IsSliceOf sl vl vu .none)(pl:IsPart vl lo)(pu:IsPart vu hi)
  (h:Q (((sIx n 0 lo:Nat):Int),1,sIx n n hi - sIx n 0 lo) s):wpAny (model prog w) A (Builtin.Slice.sliceApplied (.ref sl) (pure (n:Int))) Q E s:=by
 obtain ⟨os,hos,hcs,hds⟩:=id hs
 unfold Builtin.Slice.sliceApplied Builtin.Slice.sliceFields
 refine wpAny_bind (wpAny_bind (wpAny_field hos hds (x:=vl) rfl (wpAny_bind (wpAny_field hos hds (x:=vu) rfl (wpAny_bind (wpAny_field hos hds (x:=.none) rfl (wpAny_pure ?_)))))))
 refine wpAny_bind (slicePart_none ?_)
 show wpAny _ _ (if ((1:Int) == 0)=true then _ else _) _ _ s
 rw[if_neg (by decide)]
 refine wpAny_bind (t8 pl (wpAny_bind (t8 pu (wpAny_bind (wpAny_pure ?_)))))
 show wpAny _ _ (match Builtin.Slice.sliceAdjust lo hi 1 (n:Int) with|(lo,hi)=>pure (lo,(1:Int),Builtin.Slice.slicePlaces lo hi 1)) _ _ s
 rw[aDN lo hi n]
 show wpAny _ _ (pure (((sIx n 0 lo:Nat):Int),(1:Int),Builtin.Slice.slicePlaces ((sIx n 0 lo:Nat):Int) ((sIx n n hi:Nat):Int) 1)) _ _ s
 rw[aDO]
 exact wpAny_pure h
theorem aG4(xs:Array Value)(i k:Nat):((List.range k).filterMap fun (m:Nat)=>xs[((i:Int)+(m:Int) * 1).toNat]?).toArray=((xs.toList.drop i).take k).toArray:=by
 have e:(fun (m:Nat)=>xs[((i:Int)+(m:Int) * 1).toNat]?)=fun m=>xs[i+m]?:=by
  funext m
  have:((i:Int)+(m:Int) * 1).toNat=i+m:=by omega
  rw[this]
 rw[e]
 have:=pick_run xs i k
 rw[List.filterMap_map] at this
 have e2:((fun x=>xs[x]?)∘fun x=>i+x)=fun m=>xs[i+m]?:=rfl
 rw[e2] at this
 rw[this]
theorem sD{t sl:Addr}{items:Array Value}{vl vu:Value}{lo hi:Option Int}{Q:Value->Shared->Prop}(ht:IsTup s.heap t items)(hs:s.heap.IsSliceOf sl vl vu .none)(pl:IsPart vl lo)(pu:IsPart vu hi)
  (hw:¬ (sIx items.size 0 lo=0/\sIx items.size items.size hi=items.size))
  (h:Q (.ref s.heap.objs.size) {s with heap:=s.heap.push {cls:=.type "tuple",data:=.seq ((items.toList.drop (sIx items.size 0 lo)).take (sIx items.size items.size hi - sIx items.size 0 lo)).toArray}})
  (hsz:items.size<=sizeLine):wpAny (model prog w) A (getItem (.ref t) (.ref sl)) Q E s:=by
 have htake:sizeOk (.seq ((items.toList.drop (sIx items.size 0 lo)).take (sIx items.size items.size hi - sIx items.size 0 lo)).toArray):=by
  show ((items.toList.drop (sIx items.size 0 lo)).take (sIx items.size items.size hi - sIx items.size 0 lo)).toArray.size<=sizeLine
  rw[List.size_toArray,List.length_take,List.length_drop,Array.length_toList]
  omega
 have hj:sIx items.size items.size hi<=items.size:=aMG _ _ (Nat.le_refl _) hi
 obtain ⟨os,hos,hcs,hds⟩:=id hs
 have hTs:s.TypeIs (.ref sl) "slice":=⟨os,hos,hcs⟩
 unfold getItem
 try with_reducible refine wpAny_holding ?_
 first|refine wpAny_bind (wpAny_pure ?_)|skip
 refine wpAny_bind (wpAny_sequenceKey ht.typeIs (by decide) ?_)
 refine wpAny_bind (wpAny_callSpecial?_slot (name:=Str.ofString "__getitem__") ht.typeIs PyProof.Rows.slot_tuple_getitem
  (wpAny_call_entry PyProof.Rows.slot_tuple_getitem ht.typeIs entry_tuple_getitem ?_ (args_tuple_getitem _ _)))
 show wpAny _ _ (Builtin.Tuple.tupleItemsOf (.ref t) >>= _) _ _ s
 refine wpAny_bind (tupleItemsOf_ ht ?_)
 refine wpAny_bind (wpAny_typeOf hTs ?_)
 rw[if_pos (by decide)]
 refine wpAny_bind (sY hs pl pu ?_)
 have hno:¬ ((((sIx items.size 0 lo:Nat):Int) == 0 && (1:Int) == 1 && (sIx items.size items.size hi - sIx items.size 0 lo) == items.size)=true):=by
  intro q
  rw[Bool.and_eq_true,Bool.and_eq_true] at q
  have q1:((sIx items.size 0 lo:Nat):Int)=0:=eq_of_beq q.1.1
  have q2:sIx items.size items.size hi - sIx items.size 0 lo=items.size:=eq_of_beq q.2
  exact hw ⟨by omega,by omega⟩
 show wpAny _ _ (if (((sIx items.size 0 lo:Nat):Int) == 0 && (1:Int) == 1 && (sIx items.size items.size hi - sIx items.size 0 lo) == items.size)=true then _ else _) _ _ s
 rw[if_neg hno,aG4]
 first
  | exact wpAny_bind (m:=Builtin.Tuple.tupleExact _) (wpAny_newObj_type (wpAny_pure ⟨_,rfl,wpAny_pure h⟩) htake)
  | exact wpAny_bind (m:=Builtin.Tuple.tupleExact _) (wpAny_newObj_type (wpAny_bind (wpAny_pure (wpAny_pure ⟨_,rfl,wpAny_pure h⟩))) htake)
  | exact wpAny_bind (wpAny_bind (m:=Builtin.Tuple.tupleExact _) (wpAny_newObj_type (wpAny_pure (wpAny_pure ⟨_,rfl,wpAny_pure h⟩)) htake))
  | exact wpAny_bind (wpAny_bind (m:=Builtin.Tuple.tupleExact _) (wpAny_newObj_type (wpAny_pure ⟨_,rfl,wpAny_pure h⟩) htake))
end
end HT
namespace L2
open PySem PySem.Spec PyProof.Rows
abbrev TO:=St->Hp->(Option Int->Hp->Prop)->Prop
def PO(X:Cx)(e:Option Expr)(t:TO):Prop:=
 ∀ (pins:List (Addr×Obj)) (s:Shared) (σ:St) (H:Hp) (Q:Option Int->Hp->Prop),Inv X pins σ H s->t σ H Q->
  wpAny (model X.prog X.w) X.A (evalPart e X.env) (fun u s'=>∃ o H',Inv X pins σ H' s'/\IsPart u o/\Q o H') X.xe s
def aJ5:TO:=fun _ H Q=>Q none H
def aOL(t:TE):TO:=fun σ H Q=>t σ H fun x H1=>∃ i,x=.int i/\Q (some i) H1
section
variable{X:Cx}{e:Expr}{te:TE}{lo hi:Option Expr}{tl th:TO}{pos p2:Pos}
theorem aJ6:PO X none aJ5:=by
 intro pins s σ H Q I h
 rw[evalPart_none]
 exact wpAny_pure ⟨none,H,I,.none,h⟩
theorem aJ7(h:PE X e te):PO X (some e) (aOL te):=by
 intro pins s σ H Q I hw
 rw[evalPart_some]
 refine thn (h pins s σ H _ I hw) fun u s1 zz0=>?_
 obtain ⟨x,H1,I1,r1,q1⟩:=zz0
 obtain ⟨i,rfl,q⟩:=q1
 obtain ⟨t,rfl⟩:=r1
 exact ⟨some i,H1,I1,.int i t,q⟩
def SlR(X:Cx)(r:V->Option Int->Option Int->Hp->VK->Prop):Prop:=
 ∀ (pins:List (Addr×Obj)) (s:Shared) (σ:St) (H:Hp) (x:V) (v vl vu:Value) (lo hi:Option Int) (sl:Addr) (Q:VK),Inv X pins σ H s->bS x v->s.heap.IsSliceOf sl vl vu .none->IsPart vl lo->IsPart vu hi->r x lo hi H Q->
  ∃ T id,typeLookup (.type T) "__getitem__"=pure (some (.builtin id))/\s.TypeIs v T/\wpAny (model X.prog X.w) X.A (getItem v (.ref sl)) (EP X pins σ Q) X.xe s
def tSl(r:V->Option Int->Option Int->Hp->VK->Prop)(te:TE)(tl th:TO):TE:=fun σ H Q=>te σ H fun x H1=>tl σ H1 fun l H2=>th σ H2 fun u H3=>r x l u H3 Q
theorem zF{r:V->Option Int->Option Int->Hp->VK->Prop}(hr:SlR X r)(he:PE X e te)(hl:PO X lo tl)(hu:PO X hi th):PE X (.Subscript e (.Slice lo hi none p2) pos) (tSl r te tl th):=by
 intro pins s σ H Q I h
 refine Subscript_ (thn (he pins s σ H _ I h) fun v s1 zz0=>?_)
 obtain ⟨x,H1,I1,r1,q1⟩:=zz0
 refine wpAny_Slice (thn (hl pins s1 σ H1 _ I1 q1) fun vl s2 ⟨l,H2,I2,pl,q2⟩=>thn (hu pins s2 σ H2 _ I2 q2) fun vu s3 zz0=>?_)
 obtain ⟨u,H3,I3,pu,q3⟩:=zz0
 rw[evalPart_none]
 refine wpAny_pure ?_
 have I4:Inv X pins σ H3 {s3 with heap:=s3.heap.push {cls:=.type "slice",data:=.fields #[vl,vu,.none]}}:=I3.kept (t':=s3.toks) fun b ob q=>Heap.get?_push_of_some _ q
 obtain ⟨T,id,hT,ht,hg⟩:=hr pins {s3 with heap:=s3.heap.push {cls:=.type "slice",data:=.fields #[vl,vu,.none]}} σ H3 x v vl vu l u s3.heap.objs.size Q I4 r1 (Heap.IsSliceOf.new ..) pl pu q3
 show wpAny (model X.prog X.w) X.A (subscriptTail e (.Slice lo hi none p2) v (.ref s3.heap.objs.size)) (EP X pins σ Q) X.xe {s3 with heap:=s3.heap.push {cls:=.type "slice",data:=.fields #[vl,vu,.none]}}
 exact tail_any (ops:=[.ref s3.heap.objs.size,v]) ht hT hg (by with_unfolding_all rfl)
noncomputable def qB(xs:List V)(lo hi:Option Int):List V:=(xs.drop (HT.sIx xs.length 0 lo)).take (HT.sIx xs.length xs.length hi - HT.sIx xs.length 0 lo)
theorem sQ(xs:List V)(lo hi:Option Int):(qB xs lo hi).length<=xs.length:=by
 unfold qB
 rw[List.length_take,List.length_drop]
 omega
def aPS(K:Frag):V->Option Int->Option Int->Hp->VK->Prop:=fun x lo hi H Q=>∃ a xs,x=.ref a/\SqT K H a xs /\
 ¬ (HT.sIx xs.length 0 lo=0/\HT.sIx xs.length xs.length hi=xs.length)/\∀ p,H p=none->Q (.ref p) (upd H p (.tup (qB xs lo hi)))
theorem aMH:SlR X (aPS X.K):=by
 intro pins s σ H x v vl vu lo hi sl Q I rx hs pl pu h
 obtain ⟨a,xs,rfl,hx,hw,q⟩:=h
 cases rx
 obtain ⟨its,r,ht,hz⟩:=I.tuple hx
 have hlen:its.toArray.size=xs.length:=by rw[List.size_toArray];exact r.length.symm
 refine ⟨"tuple",_,PyProof.Rows.slot_tuple_getitem.lookup,ht.typeIs,?_⟩
 refine HT.sD ht hs pl pu (by rw[hlen];exact hw) ?_ (by rw[hlen];exact hz)
 rw[hlen]
 refine ⟨.ref s.heap.objs.size,_,I.laid (t':=s.toks) (o:=.tup (qB xs lo hi)) (fun b ob q=>Heap.get?_push_of_some _ q) (Nat.le_refl _) ?_,rfl,q _ (I.hok.fresh (Nat.le_refl _))⟩
 exact ⟨Nat.le_trans (sQ xs lo hi) hz,_,(r.drop (HT.sIx xs.length 0 lo)).take (HT.sIx xs.length xs.length hi - HT.sIx xs.length 0 lo),IsTup.new _ _⟩
def aOM(K:Frag):R2:=fun x y H Q=>∃ a b xs ys,x=.ref a/\y=.ref b/\SqT K H a xs/\SqT K H b ys/\xs≠[]/\xs.length+ys.length<=sizeLine /\
 (ys=[]->Q (.ref a) H)/\(ys≠[]->∀ p,H p=none->Q (.ref p) (upd H p (.tup (xs++ys))))
theorem bJ.nil_iff{xs:List V}{us:List Value}(r:bJ xs us):us=[]↔xs=[]:=by
 cases r with
 | nil=>simp
 | cons _ _=>simp
theorem aB3:OpR X (binaryOp .Add) (aOM X.K):=by
 intro pins s σ H x y v u Q I rx ry h
 obtain ⟨a,b,xs,ys,rfl,rfl,ha,hb,hx,hz,q1,q2⟩:=h
 cases rx
 cases ry
 obtain ⟨its,r1,p1,_⟩:=I.tuple ha
 obtain ⟨its2,r2,p2,_⟩:=I.tuple hb
 refine HT.aJ3 p1 p2 (fun z=>hx (r1.nil_iff.mp z)) (fun z=>⟨.ref a,H,I,rfl,q1 (r2.nil_iff.mp z)⟩) (fun z=>?_) (by rw[<-r1.length,<-r2.length];exact hz)
 refine ⟨.ref s.heap.objs.size,_,I.laid (t':=s.toks) (o:=.tup (xs++ys)) (fun b ob q=>Heap.get?_push_of_some _ q) (Nat.le_refl _) ?_,rfl,q2 (fun w=>z (r2.nil_iff.mpr w)) _ (I.hok.fresh (Nat.le_refl _))⟩
 exact ⟨by rw[List.length_append];exact hz,_,r1.append r2,IsTup.new _ _⟩
end
end L2
namespace L2
open PySem PySem.Spec PyProof.Rows
noncomputable def ixN(n:Nat)(i:Int):Option Nat:=if 0<=i then (if i < n then some i.toNat else none) else if -(n:Int)<=i then some (i+n).toNat else none
noncomputable def atI{α:Type}(xs:List α)(i:Int):Option α:=(ixN xs.length i).bind fun j=>xs[j]?
theorem vR{n:Nat}{i:Int}{j:Nat}(h:ixN n i=some j):seqIndex? i n=some j/\j < n /\ -(n:Int)<=i/\i < n:=by
 unfold ixN at h
 by_cases h0:0<=i
 ·rw[if_pos h0] at h
  by_cases h1:i < n
  ·rw[if_pos h1] at h
   have e:i.toNat=j:=Option.some.inj h
   exact ⟨by rw[seqIndex_of h0 h1,e],by omega,by omega,h1⟩
  ·rw[if_neg h1] at h;cases h
 ·rw[if_neg h0] at h
  by_cases h1 : -(n:Int)<=i
  ·rw[if_pos h1] at h
   have e:(i+n).toNat=j:=Option.some.inj h
   exact ⟨by rw[seqIndex_neg (by omega) h1,e],by omega,h1,by omega⟩
  ·rw[if_neg h1] at h;cases h
theorem vS{α:Type}{xs:List α}{i:Int}{v:α}(h:atI xs i=some v):∃ j,seqIndex? i xs.length=some j/\xs[j]? = some v/\j < xs.length /\ -(xs.length:Int)<=i/\i < xs.length:=by
 unfold atI at h
 cases e:ixN xs.length i with
 | none=>rw[e] at h;cases h
 | some j=>
  rw[e] at h
  obtain ⟨h1,h2,h3,h4⟩:=vR e
  exact ⟨j,h1,h,h2,h3,h4⟩
theorem kR{α:Type}{xs:List α}{j:Nat}{v:α}(h:xs[j]? = some v):atI xs (j:Int)=some v:=by
 have hj:j < xs.length:=(List.getElem?_eq_some_iff.mp h).1
 have e:ixN xs.length (j:Int)=some j:=by
  unfold ixN
  rw[if_pos (by omega),if_pos (by omega)];simp
 unfold atI;rw[e];exact h
theorem aG5{α:Type}(xs:List α)(v:α):atI (xs++[v]) (-1)=some v:=by
 have hl:(xs++[v]).length=xs.length+1:=by simp
 have e:ixN (xs++[v]).length (-1)=some xs.length:=by
  unfold ixN
  rw[hl,if_neg (by decide),if_pos (by omega)]
  congr 1
  omega
 unfold atI
 rw[e]
 show (xs++[v])[xs.length]? = some v
 simp
def aB4(b:Expr):Prop:=∀ o i,subscripted b false o i=operate [o,i] (getItem o i)
def IxR(X:Cx)(r:R2):Prop:=
 ∀ (value slice:Expr) (pins:List (Addr×Obj)) (s:Shared) (σ:St) (H:Hp) (x y:V) (v u:Value) (Q:VK),Inv X pins σ H s->bS x v->bS y u->r x y H Q->
  subscripted slice false v u=operate [v,u] (getItem v u)->wpAny (model X.prog X.w) X.A (subscriptTail value slice v u) (EP X pins σ Q) X.xe s
def MtR(X:Cx)(id:String)(r:V->List V->Hp->VK->Prop):Prop:=
 ∀ (pins:List (Addr×Obj)) (s:Shared) (σ:St) (H:Hp) (x:V) (xs:List V) (v:Value) (us:List Value) (Q:VK),Inv X pins σ H s->bS x v->bJ xs us->r x xs H Q->
  wpAny (model X.prog X.w) X.A (call (.builtin id) (v::us)) (EP X pins σ Q) X.xe s
section
variable{X:Cx}{a b:Expr}{ta tb:TE}{pos:Pos}
theorem IxR.or{r r':R2}(h:IxR X r)(h':IxR X r'):IxR X (fun x y H Q=>r x y H Q\/r' x y H Q):=by
 intro value slice pins s σ H x y v u Q I rx ry q hs
 rcases q with q|q
 · exact h value slice pins s σ H x y v u Q I rx ry q hs
 · exact h' value slice pins s σ H x y v u Q I rx ry q hs
theorem aI5{r:R2}(hr:IxR X r)(ha:PE X a ta)(hb:PE X b tb)(hs:aB4 b):PE X (.Subscript a b pos) (tOp r ta tb):=by
 intro pins s σ H Q I h
 exact Subscript_ (aGX ha hb I h fun v u s2 x y H2 I2 rx ry q=>hr a b pins s2 σ H2 x y v u Q I2 rx ry q (hs _ _))
def aMI(K:Frag):R2:=fun x y H Q=>∃ p xs i v,x=.ref p/\y=.int i/\SqL K H p xs/\atI xs i=some v/\Q v H
def aMJ(K:Frag):R2:=fun x y H Q=>∃ p xs i v,x=.ref p/\y=.int i/\SqT K H p xs/\atI xs i=some v/\Q v H
def aMK:R2:=fun x y H Q=>∃ z i c,x=.str z/\y=.int i/\z.length<=sizeLine/\atI z.cps.toList i=some c/\Q (.str ⟨#[c]⟩) H
theorem aB5:IxR X (aMI X.K):=by
 intro value slice pins s σ H x y v u Q I rx ry h hs
 obtain ⟨p,xs,i,z,rfl,rfl,hq,he,q⟩:=h
 cases rx
 obtain ⟨t,rfl⟩:=ry
 obtain ⟨its,r,pl,hz⟩:=I.list hq
 obtain ⟨j,h1,h2,h3,h4,h5⟩:=vS he
 obtain ⟨w,ew,rw'⟩:=r.get h2
 have hl:=r.length
 have hn:=p7
 have fin:EP X pins σ Q w s:=⟨z,H,I,rw',q⟩
 by_cases h0:0<=i
 ·have hj:i.toNat=j:=by
   rw[seqIndex_of h0 h5] at h1
   exact Option.some.inj h1
  exact item_listR pl.isList h0 (by omega) (by rw[hj];simpa using ew) fin hs
 ·have hj:(i+(its.toArray.size:Int)).toNat=j:=by
   rw[seqIndex_neg (by omega) h4] at h1
   rw[List.size_toArray,<-hl]
   exact Option.some.inj h1
  exact subscriptTail_builtinR (x:=w) pl.isList.typeIs slot_list_getitem.lookup
   (wpAny_getItem_list_neg (Q:=fun r s'=>r=w/\EP X pins σ Q r s') pl.isList (by omega) (by rw[List.size_toArray]<;>omega) (by omega) (by rw[hj];simpa using ew) ⟨rfl,fin⟩) hs
theorem aE1:IxR X (aMJ X.K):=by
 intro value slice pins s σ H x y v u Q I rx ry h hs
 obtain ⟨p,xs,i,z,rfl,rfl,hq,he,q⟩:=h
 cases rx
 obtain ⟨t,rfl⟩:=ry
 obtain ⟨its,r,pl,hz⟩:=I.tuple hq
 obtain ⟨j,h1,h2,h3,h4,h5⟩:=vS he
 obtain ⟨w,ew,rw'⟩:=r.get h2
 have hl:=r.length
 have hn:=p7
 have fin:EP X pins σ Q w s:=⟨z,H,I,rw',q⟩
 exact subscriptTail_builtinR (x:=w) pl.typeIs slot_tuple_getitem.lookup
  (getItem_tuple (j:=j) (Q:=fun r s'=>r=w/\EP X pins σ Q r s') pl (by omega) (by omega) (by rw[List.size_toArray,<-hl];exact h1) (by simpa using ew) ⟨rfl,fin⟩) hs
theorem aE2:IxR X aMK:=by
 intro value slice pins s σ H x y v u Q I rx ry h hs
 obtain ⟨z,i,c,rfl,rfl,hz,he,q⟩:=h
 obtain ⟨t,rfl⟩:=rx
 obtain ⟨t',rfl⟩:=ry
 obtain ⟨j,h1,h2,h3,h4,h5⟩:=vS he
 have hl:z.cps.toList.length=z.length:=by simp[Str.length]
 rw[hl] at h1 h4 h5
 have hn:=p7
 exact tail_any (typeIs_str s z t) slot_str_getitem.lookup (getItem_str (c:=c) (by
  have e1:decide (i < -(2 ^ 63:Int))=false:=decide_eq_false (by omega)
  have e2:decide (i>=2 ^ 63)=false:=decide_eq_false (by omega)
  rw[e1,e2,Bool.or_false]) (by rw[h1];simpa using h2) ⟨.str ⟨#[c]⟩,H,I.tok _,⟨_,rfl⟩,q⟩) hs
def rIx(K:Frag):R2:=fun x y H Q=>aMI K x y H Q\/aMJ K x y H Q\/aMK x y H Q
theorem aML:IxR X (rIx X.K):=aB5.or (aE1.or aE2)
theorem aDP(its:List Value)(n j:Nat)(u:Value):Obj.mapSeq (·.setIfInBounds j u) {cls:=.type "list",data:=.seq its.toArray n}={cls:=.type "list",data:=.seq (its.set j u).toArray n}:=by
 simp[Obj.mapSeq]
theorem Inv.lst{pins:List (Addr×Obj)}{σ:St}{H:Hp}{s:Shared}{p:Addr}{xs:List V}(I:Inv X pins σ H s)(h:H p=some (.lst xs)) :
  ∃ (its:List Value) (n:Nat),bJ xs its/\s.heap.get? p=some {cls:=.type "list",data:=.seq its.toArray n}/\xs.length<=sizeLine:=by
 obtain ⟨z,its,n,r,e⟩:=I.hok p _ h
 exact ⟨its,n,r,e,z⟩
theorem Inv.lstUpd{pins:List (Addr×Obj)}{σ:St}{H:Hp}{s:Shared}{p:Addr}{xs ys:List V}{its its':List Value}{n n':Nat}{f:Obj->Obj}(I:Inv X pins σ H s)(h:H p=some (.lst xs))
  (ho:s.heap.get? p=some {cls:=.type "list",data:=.seq its.toArray n}) (hf:f {cls:=.type "list",data:=.seq its.toArray n}={cls:=.type "list",data:=.seq its'.toArray n'}) (r:bJ ys its') (hz:ys.length<=sizeLine) (t:Nat) :
  Inv X pins σ (upd H p (.lst ys)) {s with heap:=s.heap.update p f,toks:=t}:=by
 have e:(s.heap.update p f).get? p=some {cls:=.type "list",data:=.seq its'.toArray n'}:=by
  rw[Heap.get?_update_self f ho (by rw[hf]<;>rfl),hf]
 refine I.write (x:=p) (e:=p) (by rw[h];trivial) (.inl rfl) (fun b u hb q=>(Heap.get?_update_other _ _ (Ne.symm hb)).trans q) ⟨_,e⟩ ?_
 exact ⟨hz,its',n',r,e⟩
def rO:V->V->V->Hp->(Hp->Prop)->Prop:=fun o i v H Q=>∃ p xs k j,o=.ref p/\i=.int k/\H p=some (.lst xs)/\ixN xs.length k=some j/\Q (upd H p (.lst (xs.set j v)))
theorem fC:aGU X rO:=by
 intro pins s σ H o i v ov iv u Q I ro ri rv h
 obtain ⟨p,xs,k,j,rfl,rfl,hp,hj,q⟩:=h
 cases ro
 obtain ⟨t,rfl⟩:=ri
 obtain ⟨its,n,r,ho,hz⟩:=I.lst hp
 obtain ⟨h1,h2,h3,h4⟩:=vR hj
 have hl:=r.length
 have hn:=p7
 have I':Inv X pins σ (upd H p (.lst (xs.set j v))) {s with heap:=s.heap.update p (Obj.mapSeq (·.setIfInBounds j u))}:=
  I.lstUpd hp ho (aDP its n j u) (r.set rv j) (by rw[List.length_set];exact hz) s.toks
 by_cases h0:0<=k
 ·have hk:k.toNat=j:=by
   rw[seqIndex_of h0 h4] at h1
   exact Option.some.inj h1
  exact PySem.W.ki_setAt ho h0 (by omega) (by rw[List.size_toArray,<-hl];exact h4) (by rw[hk];exact ⟨_,I',q⟩)
 ·have hk:(k+(its.toArray.size:Int)).toNat=j:=by
   rw[seqIndex_neg (by omega) h3] at h1
   rw[List.size_toArray,<-hl]
   exact Option.some.inj h1
  exact PySem.W.ki_setBack ho (by omega) (by rw[List.size_toArray,<-hl];exact h3) (by omega) (by rw[hk];exact ⟨_,I',q⟩)
theorem zG(lo hi:Option Int)(n:Nat):(sliceBounds lo hi none n).1=((HT.sIx n 0 lo:Nat):Int)/\(sliceBounds lo hi none n).2.1=((HT.sIx n n hi:Nat):Int)/\(sliceBounds lo hi none n).2.2=1:=by
 refine ⟨?_,?_,rfl⟩
 ·cases lo with
  | none=>simp[sliceBounds,HT.sIx]
  | some i=>
   simp only[sliceBounds,HT.sIx,Option.getD_none,show (1:Int) > 0 by decide,if_true]
   by_cases h:i < 0
   · simp only [h, if_true] <;> omega
   · simp only [h, if_false] <;> omega
 ·cases hi with
  | none=>simp[sliceBounds,HT.sIx]
  | some i=>
   simp only[sliceBounds,HT.sIx,Option.getD_none,show (1:Int) > 0 by decide,if_true]
   by_cases h:i < 0
   · simp only [h, if_true] <;> omega
   · simp only [h, if_false] <;> omega
theorem yA(its:List Value)(lo hi:Option Int):slicePick its.toArray lo hi none=((its.drop (HT.sIx its.length 0 lo)).take (HT.sIx its.length its.length hi - HT.sIx its.length 0 lo)).toArray:=by
 obtain ⟨h1,h2,h3⟩:=zG lo hi its.toArray.size
 unfold slicePick
 rw[h1,h2,h3]
 simp only[sliceRange_one,pick_run,List.size_toArray]<;>rfl
def aPT(K:Frag):V->Option Int->Option Int->Hp->VK->Prop:=fun x lo hi H Q=>∃ a xs,x=.ref a/\SqL K H a xs/\∀ p,H p=none->Q (.ref p) (upd H p (.lst (qB xs lo hi)))
theorem aB6:SlR X (aPT X.K):=by
 intro pins s σ H x v vl vu lo hi sl Q I rx hs pl pu h
 obtain ⟨a,xs,rfl,hx,q⟩:=h
 cases rx
 obtain ⟨its,r,ht,hz⟩:=I.list hx
 have hlen:=r.length
 refine ⟨"list",_,slot_list_getitem.lookup,ht.isList.typeIs,?_⟩
 refine wpAny_getItem_list_slice ht.isList hs pl pu .none (by simp) ?_ (by rw[List.size_toArray]<;>omega)
 rw[yA,<-hlen]
 refine ⟨.ref s.heap.objs.size,_,I.laid (t':=s.toks) (o:=.lst (qB xs lo hi)) (fun b ob q=>Heap.get?_push_of_some _ q) (Nat.le_refl _) ?_,rfl,q _ (I.hok.fresh (Nat.le_refl _))⟩
 exact ⟨Nat.le_trans (sQ xs lo hi) hz,_,0,(r.drop (HT.sIx xs.length 0 lo)).take (HT.sIx xs.length xs.length hi - HT.sIx xs.length 0 lo),Heap.get?_push_size _ rfl⟩
theorem j8:jO X (.type "list") (fun xs H Q=>∃ p ys,xs=[.ref p]/\(SqL X.K H p ys\/SqT X.K H p ys)/\∀ l,H l=none->Q (.ref l) (upd H l (.lst ys))):=by
 intro pins s σ H xs us Q I r h
 obtain ⟨p,ys,rfl,hq,q⟩:=h
 obtain ⟨u,rfl,rx⟩:=nI r
 cases rx
 have fin:∀ (its:List Value),bJ ys its->ys.length<=sizeLine->∀ (h':Heap) (c':Nat),(∀ b o',s.heap.get? b=some o'->h'.get? b=some o')->
   h'.get? s.heap.objs.size=some {cls:=.type "list",dict:=none,data:=.seq its.toArray c',slots:=#[]}->EP X pins σ Q (.ref s.heap.objs.size) {s with heap:=h'}:=fun its r' hz h' c' kp e=>
  ⟨.ref s.heap.objs.size,_,I.laid (t':=s.toks) kp (Nat.le_refl _) (show cS X.prog X.w _ h' _ (.lst ys) from ⟨hz,its,c',r',e⟩),rfl,q _ (I.hok.fresh (Nat.le_refl _))⟩
 rcases hq with hq|hq
 ·obtain ⟨its,r',pl,hz⟩:=I.list hq
  have hlen:=r'.length
  obtain ⟨o,ho,hc,n,hd⟩:=pl.isList
  exact call_list_seq p (.inl rfl) ho hc hd (fun h' c' kp e=>fin its r' hz h' c' kp e) (by simp only[List.size_toArray]<;>omega)
 ·obtain ⟨its,r',pl,hz⟩:=I.tuple hq
  have hlen:=r'.length
  obtain ⟨o,ho,hc,n,hd⟩:=pl
  exact call_list_seq p (.inr rfl) ho hc hd (fun h' c' kp e=>fin its r' hz h' c' kp e) (by simp only[List.size_toArray]<;>omega)
theorem dW:jO X (.type "tuple") (fun xs H Q=>∃ p ys,xs=[.ref p]/\((SqL X.K H p ys/\∀ l,H l=none->Q (.ref l) (upd H l (.tup ys)))\/(SqT X.K H p ys/\Q (.ref p) H))):=by
 intro pins s σ H xs us Q I r h
 obtain ⟨p,ys,rfl,h⟩:=h
 obtain ⟨u,rfl,rx⟩:=nI r
 cases rx
 rcases h with ⟨hq,q⟩|⟨hq,q⟩
 ·obtain ⟨its,r',pl,hz⟩:=I.list hq
  have hlen:=r'.length
  refine call_tuple_list pl.isList (fun h' kp=>?_) (by simp only[List.size_toArray]<;>omega)
  have I1:Inv X pins σ H {s with heap:=h'}:=I.kept (t':=s.toks) kp
  have I2:Inv X pins σ (upd H h'.objs.size (.tup ys)) {s with heap:=h'.push {cls:=.type "tuple",data:=.seq its.toArray}}:=
   I1.laid (t':=s.toks) (fun b o e=>Heap.get?_push_of_some _ e) (Nat.le_refl _) (show cS X.prog X.w _ _ _ (.tup ys) from ⟨hz,its,r',IsTup.new _ _⟩)
  exact ⟨.ref h'.objs.size,_,I2,rfl,q _ (I1.hok.fresh (Nat.le_refl _))⟩
 ·obtain ⟨its,r',pl,hz⟩:=I.tuple hq
  exact call_tuple_same pl ⟨.ref p,H,I,rfl,q⟩
def tyV(K:Frag)(T:String)(x:V)(H:Hp):Prop:=match x with
 | .str _=>T="str"
 | .int _=>T="int"
 | .ref p=>(T="list"/\∃ xs,SqL K H p xs)\/(T="tuple"/\∃ o,K.lookup p=some o/\o.cls=.type "tuple"/\o.dict=none) \/
  (T="dict"/\((∃ kvs,H p=some (.dK kvs))\/∃ kvs,H p=some (.dT kvs)))\/(T="set"/\∃ S n,H p=some (.set S n))
 | _=>False
theorem aMM{pins:List (Addr×Obj)}{σ:St}{H:Hp}{s:Shared}{T:String}{x:V}{v:Value}(I:Inv X pins σ H s)(r:bS x v)(ty:tyV X.K T x H) :
  s.TypeIs v T/\∀ a,v=.ref a->∃ ob,s.heap.get? a=some ob/\ob.dict=none:=by
 cases x with
 | str z=>
  obtain ⟨t,rfl⟩:=r
  cases (show T="str" from ty)
  exact ⟨typeIs_str s z t,fun _ e=>nomatch e⟩
 | int i=>
  obtain ⟨t,rfl⟩:=r
  cases (show T="int" from ty)
  exact ⟨typeIs_int s i t,fun _ e=>nomatch e⟩
 | ref p=>
  cases r
  rcases ty with ⟨rfl,xs,hq⟩|⟨rfl,o,hk,hc,hd⟩|⟨rfl,hk⟩|⟨rfl,S,n,hk⟩
  ·obtain ⟨its,_,pl,_⟩:=I.list hq
   refine ⟨pl.isList.typeIs,fun a e=>?_⟩
   cases e
   obtain ⟨o,n,e,c,hd,_⟩:=pl
   exact ⟨o,e,hd⟩
  ·refine ⟨⟨o,I.kIn p o hk,hc⟩,fun a e=>?_⟩
   cases e
   exact ⟨o,I.kIn _ o hk,hd⟩
  ·have z:∃ o,s.heap.get? p=some o/\o.ExactDict:=by
    rcases hk with ⟨kvs,hk⟩|⟨kvs,hk⟩
    ·obtain ⟨_,_,_,_,o,_,_,e,ex,_⟩:=I.hok p _ hk
     exact ⟨o,e,ex⟩
    ·obtain ⟨_,_,_,_,o,_,_,e,ex,_⟩:=I.hok p _ hk
     exact ⟨o,e,ex⟩
   obtain ⟨o,e,ex⟩:=z
   refine ⟨⟨o,e,ex.1⟩,fun a e2=>?_⟩
   cases e2
   exact ⟨o,e,ex.2.1⟩
  ·obtain ⟨o,_,_,_,e,ex,_⟩:=I.hok p _ hk
   refine ⟨⟨o,e,ex.1⟩,fun a e2=>?_⟩
   cases e2
   exact ⟨o,e,ex.2.1⟩
 | _=>exact False.elim ty
def tBM(K:Frag)(T:String)(r:V->List V->Hp->VK->Prop)(to:TE)(t:TA):TE:=fun σ H Q=>to σ H fun x H1=>tyV K T x H1/\t σ H1 fun xs H2=>r x xs H2 Q
variable{o e:Expr}{es:List Expr}{to:TE}{t:TA}{name:Str}{apos cpos:Pos}{T id:String}{r:V->List V->Hp->VK->Prop}
theorem gK(pa:PlainAttrs T)(slot:Slot T name id)(hty:typeOf (.builtin id)=pure (.type "method_descriptor"))(hm:MtR X id r)(ho:PE X o to)(ha:PA X (e::es) t)
  (hbase:attributeBase o name X.env (eval o X.env)=eval o X.env:=by rfl)
  (hfew:((backTo cpos (starEach (e::es) X.env)).all (fun x=>!x.1) && (backToKw cpos (keywordEach [] X.env)).all (fun x=>x.1.isSome)
   && decide ((e::es).length+([]:List Keyword).length+(if ([]:List Keyword).isEmpty then 0 else 1) < 30))=true:=by rfl)
  (hline:(apos.endLine == cpos.line)=true:=by rfl) (hs:starEach (e::es) X.env=(false,eval e X.env)::starEach es X.env:=by rfl) (hplain:(backTo cpos (starEach es X.env)).any (·.1)=false:=by rfl) :
  PE X (.Call (.Attribute o name apos) (e::es) [] cpos) (tBM X.K T r to t):=by
 intro pins s σ H Q I h
 refine wpAny_Call_method_late hbase hfew hline rfl (thn (ho pins s σ H _ I h) fun v s1 zz0=>?_)
 obtain ⟨x,H1,I1,r1,ty,q1⟩:=zz0
 obtain ⟨h1,h2⟩:=aMM I1 r1 ty
 refine ⟨T,id,pa,slot,hty,h1,h2,?_⟩
 have hA:=ha cpos pins s1 σ H1 _ I1 q1
 rw[hs] at hA ⊢
 refine Calls.callWith_builtin (by show (false || (backTo cpos (starEach es X.env)).any (·.1))=false;rw[hplain]<;>rfl) (Calls.evalArgs_plain ?_)
 exact thn hA fun us s2 ⟨vs,H2,I2,r2,q2⟩=>hm pins s2 σ H2 x vs v us Q I2 r1 r2 q2
end
end L2
namespace L2
open PySem PySem.Spec PyProof.Rows
def MtM(X:Cx)(id:String)(r:V->List V->Hp->VK->Prop):Prop:=
 ∀ (pins:List (Addr×Obj)) (s:Shared) (σ:St) (H:Hp) (x:V) (xs:List V) (v:Value) (us:List Value) (Q:VK),Inv X pins σ H s->bS x v->bJ xs us->r x xs H Q->
  wpAny (model X.prog X.w) X.A (call (.builtin id) (v::us)) (EP X pins σ Q) X.xe s
theorem bJ.one:∀ {x:V} {us:List Value},bJ [x] us->∃ u,us=[u]/\bS x u
 | _,_,.cons r .nil=>⟨_,rfl,r⟩
theorem bJ.eraseIdx:∀ {xs:List V} {us:List Value} (i:Nat),bJ xs us->bJ (xs.eraseIdx i) (us.eraseIdx i)
 | _,_,_,.nil=>.nil
 | _,_,0,.cons _ t=>t
 | _,_,i+1,.cons r t=>.cons r (bJ.eraseIdx i t)
theorem bJ.reverse{xs:List V}{us:List Value}(h:bJ xs us):bJ xs.reverse us.reverse:=by
 induction h with
 | nil=>exact .nil
 | cons r t ih=>rw[List.reverse_cons,List.reverse_cons];exact bJ.append ih (.cons r .nil)
theorem xC{α:Type}:∀ (l:List α) (i:Nat),(l.eraseIdx i).length<=l.length
 | [],_=>Nat.le_refl _
 | _::_,0=>Nat.le_succ _
 | _::r,i+1=>Nat.succ_le_succ (xC r i)
section
variable{X:Cx}{pins:List (Addr×Obj)}{σ:St}{H:Hp}{s:Shared}{l b:Addr}{xs ys zs:List V}
theorem Inv.lset{its its':List Value}{n:Nat}{f:Array Value->Array Value}{t':Nat}(I:Inv X pins σ H s)(hH:H l=some (.lst xs))
  (e:s.heap.get? l=some {cls:=.type "list",data:=.seq its.toArray n}) (hf:f its.toArray=its'.toArray) (hv:bJ ys its') (hz:ys.length<=sizeLine) :
  Inv X pins σ (upd H l (.lst ys)) {s with heap:=s.heap.update l (Obj.mapSeq f),toks:=t'}:=by
 have q:=PySem.IsL.update e f
 rw[hf] at q
 refine I.write (x:=l) (e:=l) (by rw[hH];exact trivial) (.inl rfl) (fun b' u hb hu=>(Heap.get?_update_other s.heap (Obj.mapSeq f) (Ne.symm hb)).trans hu) ⟨_,q⟩ ?_
 exact ⟨hz,its',_,hv,q⟩
theorem Inv.lnew{its:List Value}{t':Nat}(I:Inv X pins σ H s)(hv:bJ ys its)(hz:ys.length<=sizeLine) :
  Inv X pins σ (upd H s.heap.objs.size (.lst ys)) {s with heap:=s.heap.push {cls:=.type "list",data:=.seq its.toArray},toks:=t'}:=
 I.laid (fun _ _ q=>Heap.get?_push_of_some _ q) (Nat.le_refl _) ⟨hz,its,0,hv,Heap.get?_push_size _ rfl⟩
theorem Inv.fresh(I:Inv X pins σ H s):H s.heap.objs.size=none:=I.hok.fresh (Nat.le_refl _)
theorem Inv.lstM(I:Inv X pins σ H s)(hH:H l=some (.lst xs)):xs.length<=sizeLine/\∃ (its:List Value) (n:Nat),bJ xs its/\xs.length=its.length/\s.heap.get? l=some {cls:=.type "list",data:=.seq its.toArray n}:=by
 obtain ⟨z,its,n,r,e⟩:=I.hok l _ hH
 exact ⟨z,its,n,r,r.length,e⟩
end
section
variable{X:Cx}
def vT:V->List V->Hp->VK->Prop:=fun x vs H Q=>∃ l xs y,x=.ref l/\vs=[y]/\H l=some (.lst xs)/\xs.length < sizeLine/\Q .non (upd H l (.lst (xs++[y])))
theorem iI:MtM X "list.append" vT:=by
 intro pins s σ H x vs v us Q I rx rv h
 obtain ⟨l,xs,y,rfl,rfl,hH,hz,q⟩:=h
 cases rx
 obtain ⟨u,rfl,ru⟩:=rv.one
 obtain ⟨z,its,n,r,hl,e⟩:=I.lstM hH
 refine call_meets F.slot_list_append ⟨_,e,rfl⟩ F.entry_list_append (F.args_list_append_2 _ _) (PySem.list_append l its.toArray n u (by rw[List.size_toArray];omega)) ⟨e,?_⟩
 refine ⟨.non,_,I.lset (its':=its++[u]) hH e (by simp) (r.append (.cons ru .nil)) ?_,rfl,q⟩
 rw[List.length_append,List.length_singleton]
 omega
def aE3:V->List V->Hp->VK->Prop:=fun x vs H Q=>∃ l xs i k y,x=.ref l/\vs=[.int i]/\H l=some (.lst xs) /\ -(2 ^ 63)<=i/\i < 2 ^ 63/\seqIndex? i xs.length=some k/\xs[k]? = some y/\Q y (upd H l (.lst (xs.eraseIdx k)))
theorem zH:MtM X "list.pop" aE3:=by
 intro pins s σ H x vs v us Q I rx rv h
 obtain ⟨l,xs,i,k,y,rfl,rfl,hH,h1,h2,hk,hy,q⟩:=h
 cases rx
 obtain ⟨u,rfl,ru⟩:=rv.one
 obtain ⟨t,rfl⟩:=ru
 obtain ⟨z,its,n,r,hl,e⟩:=I.lstM hH
 obtain ⟨w,hw,rw'⟩:=r.get hy
 refine call_meets F.slot_list_pop ⟨_,e,rfl⟩ F.entry_list_pop (F.args_list_pop_2 _ _)
  (MeetsSeq.list_pop_at l its.toArray n i t k w (fitsIndex_both h1 h2) (by rw[List.size_toArray,<-hl];exact hk) (by rw[<-Array.getElem?_toList];exact hw) (by rw[List.size_toArray];omega)) ⟨e,?_⟩
 refine ⟨y,_,I.lset (its':=its.eraseIdx k) hH e ?_ (r.eraseIdx k) ?_,rw',q⟩
 ·show its.toArray.eraseIdxIfInBounds k=(its.eraseIdx k).toArray
  rw[List.eraseIdxIfInBounds_toArray]
 ·have:=xC xs k
  omega
theorem aJ8{α:Type}(xs:List α)(k:Nat):(List.replicate k xs).flatten.length=k * xs.length:=by
 induction k with
 | zero=>simp
 | succ k ih=>rw[List.replicate_succ,List.flatten_cons,List.length_append,ih,Nat.succ_mul,Nat.add_comm]
end
end L2
namespace Att
open PySem PySem.W PySem.Calls PyProof.Rows
theorem t9{P:Params}{h:Heap}:∀ (ns:List Int) (vs:List Value),WellAll P h vs (ns.map WData.int)->IntsAre vs ns:=by
 intro ns
 induction ns with
 | nil=>
  intro vs w
  rw[List.map_nil] at w
  cases w
  exact .nil
 | cons n ns ih=>
  intro vs w
  rw[List.map_cons] at w
  cases w with
  | cons a b=>
   cases a
   exact .cons _ _ (ih _ b)
theorem aE4{l:OpenLaw}{n:Nat}(hn:l.most=some n){P:Params}{h:Heap}{args:List WData}{vals:List Value}
  (hpre:l.row.toRowW.claim.pre args=true) (hwl:WellAll P h vals args) :
  ∃ a vs ns,vals=[Value.ref a]/\args=[WData.list (ns.map WData.int)]/\h.get? a=some {cls:=.type "list",data:=.seq vs.toArray}/\IntsAre vs ns/\ns.length<=n:=by
 have hsh:WShape.hasAll [] args [.list .int]=true:=(pre_splitW hpre).1
 have hc:l.pre.holds [] {args:=args}=true:=(pre_splitW hpre).2
 obtain ⟨d,r,rfl,h1,h2⟩:=hasAllW_cons hsh
 obtain rfl:=hasAllW_nil h2
 obtain ⟨xs,rfl,h3⟩:=hasW_list h1
 obtain ⟨ns,rfl⟩:=items_int h3
 have hlen:ns.length<=n:=by
  unfold OpenLaw.pre at hc
  have h4:(WTm.not (.lt (.lit (.int (n:Int))) (.len (.arg 0)))).holds [] {args:=[.list (ns.map .int)]}=true:=by
   have h4:=(holds_andW hc).1
   rw[hn] at h4
   exact h4
  have h5:=condW_of h4 (w_not (w_lt w_lit (w_len_list (w_arg rfl))))
  rw[List.length_map] at h5
  refine Nat.le_of_not_lt fun q=>?_
  have q':(n:Int) < ((ns.length:Nat):Int):=by omega
  first
   | (rw[decide_eq_true q'] at h5;exact absurd h5 (by decide))
   | (simp at h5;omega)
 cases hwl with
 | cons w1 w2=>
  cases w2
  cases w1 with
  | list ho hall=>exact ⟨_,_,ns,rfl,rfl,ho,t9 ns _ hall,hlen⟩
theorem aE5(l:OpenLaw)(args:List WData):l.row.toRowW.claim.post args (.bool true) args=true:=
 postW_of (r:=l.row.toRowW) (X:=(true == true))
  (show WShape.has [] (.bool true) .bool=true by first|rfl|decide|simp[WShape.has,WShape.arms,WShape.armsAll])
  (show (WTm.eq .res (.lit (.bool true))).value [] {args:=args,res:=some (.bool true),after:=args}=some (.bool (true == true)) from w_eq_bool (w_res rfl) w_lit) rfl
theorem attach_call{l:OpenLaw}{n:Nat}{q:Program}{loose:List Str}{XP:(Str->Option Value)->Heap->Prop}{YP:World->Heap->Prop}{d:DefRec}
  (hn:l.most=some n) (hdf:d.params.defaults=[])
  (call:∀ (w:World) (s₀ s₁:Shared) (mg mb:Str->Option Value) (fa:Addr) (o:Obj) (pm cd doc:Value) (a:Addr) (vs:List Value) (ns:List Int),
   Ground q loose [] XP w s₀ mg mb s₁.heap->YP w s₁.heap->
   s₁.heap.get? fa=some o->o.data=.func (docDef d.name d.params d.body d.scope pm cd doc)->s₁.heap.CodeRec cd d.name->mg d.name=some (.ref fa)->
   s₁.heap.get? a=some {cls:=.type "list",data:=.seq vs.toArray}->IntsAre vs ns->ns.length<=n->s₁.gens = #[]->
   codeAny (model l.prog w) callerA (.call (.ref fa) ⟨[.ref a],[]⟩) (fun r s'=>r=.ok (.ret (.bool true))/\OldK s₁.heap s'.heap/\s'.os=s₁.os/\AllBare s'.gens) s₁) :
  WalkO q loose XP YP l.row.toRowW d [] (fun f vs=>PySem.call f vs):=by
 intro w s₀ s₁ mg mb G Y fa o pm cd doc dV kV ho hd hcd hD hmg hg args vals as hpre hlay hrd hwl hlo
 obtain rfl:dV=.none:=Dflts.none hD hdf
 obtain rfl:kV=.none:=Dflts.noKw hD
 obtain ⟨a,vs,ns,rfl,rfl,hobj,hints,hlen⟩:=aE4 hn hpre hwl
 refine enter_call (codeAny_mono (call w s₀ s₁ mg mb fa o pm cd doc a vs ns G Y ho (fd_plain hd) hcd hmg hobj hints hlen hg) fun r s' hq=>?_)
 obtain ⟨rfl,h2,h3,h4⟩:=hq
 exact ⟨.inl ⟨.bool true,.bool true,[],rfl,fun _=>rfl,.bool true,aE5 l _,fun _=>⟨List.Pairwise.nil,fun _ hm=>(nomatch hm)⟩⟩,h2,h3,h4⟩
section
variable{prog:Program}{w:World}{A:Around}{E:Value->Shared->Prop}{s:Shared}{K:Frag}
noncomputable def aQR(h:Heap)(L d:Addr):List (Addr×Obj):=(List.range h.objs.size).filterMap fun a=>if a=L\/a=d then none else (h.get? a).map fun o=>(a,o)
end
end Att
namespace L2
open PySem PySem.Spec PyProof.Rows
theorem xD:∀ {vs:List Value} {ns:List Int},IntsAre vs ns->bJ (ns.map V.int) vs
 | _,_,.nil=>.nil
 | _,_,.cons n t h=>.cons ⟨t,rfl⟩ (xD h)
def aG6(H:Hp):Prop:=∀ b,H b=none\/∃ o xs,H b=some (.frz o (.lst xs))
theorem aG7{P:Program}{w:World}{K:Frag}{mg mb:Str->Option Value}{CX:CXT}{k:Nat}{fa a:Addr}{fd:FuncData}{x:Str}{sp:Sp}{s₁:Shared}{vs:List Value}{ns:List Int}
  (KX:K.In s₁.heap) (hns:s₁.heap.Ns mainGlobals mg) (hb:s₁.heap.Ns builtinsNs mb) (hbb:∀ x:Str,x≠"__name__"->mb x=bootBuiltins x) (hlim:s₁.heap.NoLimit) (hg:s₁.gens = #[])
  (ha:s₁.heap.get? a=some {cls:=.type "list",data:=.seq vs.toArray}) (hi:IntsAre vs ns) (hl:ns.length<=sizeLine) (hr:Room k callerA)
  (F:∀ base:Heap,K.In base->base.Ns mainGlobals mg->FnOk P w K mg base CX k fa fd [x] sp) (hbind:∀ (s:Shared) (u:Value),BindsTo s fd ⟨[u],[]⟩ [(x,u)])
  (hsp:∀ H:Hp,aG6 H->SqL K H a (ns.map V.int)->sp [.ref a] H (fun v _=>v=.bl true) fun _ _ _=>False)
  (hCX:∀ H e s',CX [] H s₁ (fun _ _ _=>False) e s'->False) :
  codeAny (model P w) callerA (.call (.ref fa) ⟨[.ref a],[]⟩) (fun r s'=>r=.ok (.ret (.bool true))/\OldK s₁.heap s'.heap/\s'.os=s₁.os/\AllBare s'.gens) s₁:=by
 have rv:=xD hi
 have lenV:=hi.length
 have core:∀ H:Hp,aG6 H->SqL K H a (ns.map V.int)->HOk P w H s₁.heap->(∀ b,H b≠none->b=a)->(H a≠none->K.lookup a=none)->
   codeAny (model P w) callerA (.call (.ref fa) ⟨[.ref a],[]⟩) (fun r s'=>r=.ok (.ret (.bool true))/\OldK s₁.heap s'.heap/\s'.os=s₁.os/\AllBare s'.gens) s₁:=by
  intro H hO hS hok hA hK
  have base_of:∀ {b:Addr} {o:Obj},s₁.heap.get? b=some o->H b=none->(oW s₁.heap H).get? b=some o:=fun e n=>aGR e n
  have noA:∀ {b:Addr} {o:Obj} {es:Array DictEntry} {ep:Nat},s₁.heap.get? b=some o->o.data=.dict es ep->H b=none:=fun {b o es ep} e d=>by
   cases q:H b with
   | none=>rfl
   | some u=>
    have e':b=a:=hA b (by rw[q];simp)
    subst e'
    rw[ha] at e;cases e
    have d':Data.seq vs.toArray _=Data.dict es ep:=d
    cases d'
  have nsK:∀ {b:Addr} {m:Str->Option Value},s₁.heap.Ns b m->(oW s₁.heap H).Ns b m:=fun {b m} ⟨o,es,ep,e,d,r⟩=>⟨o,es,ep,base_of e (noA e d),d,r⟩
  have hKb:K.In (oW s₁.heap H):=fun b o e=>base_of (KX b o e) (by
   cases q:H b with
   | none=>rfl
   | some u=>
    have e':b=a:=hA b (by rw[q];simp)
    subst e'
    rw[hK (by rw[q];simp)] at e;cases e)
  have hM:Mod K mg (oW s₁.heap H):=⟨hKb,nsK hns,⟨mb,nsK hb,hbb⟩,let ⟨mc,h1,h2⟩:=hlim;⟨mc,nsK h1,h2⟩⟩
  have e0:Env0 P w K mg (oW s₁.heap H) callerA [] s₁ H:=⟨rfl,hM,fun b o e=>aJU e,Nat.le_of_eq (aES _ _),trivial,fun b hb=>absurd (show b∈([]:List Addr) from hb) (by simp),hok,.of_eq hg⟩
  refine codeAny_mono ((F _ hKb (nsK hns)).run callerA [] s₁ H ⟨[.ref a],[]⟩ [.ref a] [.ref a] _ _ hr e0 (hbind s₁ (.ref a)) (.cons rfl .nil) (hsp H hO hS)) fun r s' h=>?_
  cases r with
  | error e=>exact (hCX H e s' h).elim
  | ok fl=>
   cases fl with
   | next=>exact False.elim h
   | brk=>exact False.elim h
   | cont=>exact False.elim h
   | ret u=>
    obtain ⟨v,H',os,bare,un,hok',r',q⟩:=h
    have q':v=.bl true:=q
    subst q'
    obtain rfl:u=Value.bool true:=r'
    refine ⟨rfl,OldK.of_keep fun b o e=>?_,os,bare⟩
    cases q:H b with
    | none=>exact un.keep b o e q (by intro z;exact absurd (show b∈([]:List Addr) from z) (by simp)) (by simp)
    | some u=>
     rcases hO b with z|⟨ob,xs,z⟩
     ·rw[q] at z;cases z
     ·have z2:=un.frzs b ob _ z
      obtain ⟨e1,_⟩:=hok b _ z
      obtain ⟨e2,_⟩:=hok' b _ z2
      rw[e] at e1;cases e1
      exact e2
 cases hk:K.lookup a with
 | some o=>
  have e:=KX a o hk
  rw[ha] at e
  cases e
  refine core (fun _=>none) (fun _=>.inl rfl) (.inr ⟨_,vs.toArray,_,hk,rfl,rfl,rfl,by rw[List.size_toArray,lenV];exact hl,by simpa using rv⟩) (fun b u z=>by have z':(none:Option HO)=some u:=z;cases z') (fun b z=>absurd rfl z) fun z=>absurd rfl z
 | none=>
  refine core (fun b=>if b=a then some (.frz {cls:=.type "list",data:=.seq vs.toArray} (.lst (ns.map V.int))) else none) (fun b=>?_) (.inl (.inr ⟨{cls:=.type "list",data:=.seq vs.toArray},if_pos rfl⟩)) (fun b u z=>?_) (fun b z=>?_) fun _=>hk
  ·by_cases hb:b=a
   ·exact .inr ⟨_,_,if_pos hb⟩
   ·exact .inl (if_neg hb)
  ·by_cases hb:b=a
   ·have z':=(if_pos hb).symm.trans z
    cases z'
    subst hb
    exact ⟨ha,by rw[List.length_map];exact hl,vs,_,rv,ha⟩
   ·have z':=(if_neg hb).symm.trans z
    cases z'
  ·by_cases hb:b=a
   ·exact hb
   ·exact absurd (if_neg hb) z
end L2
namespace L2
open PySem PySem.Spec PyProof.Rows
abbrev KOf{K:Frag}{h:Heap}(_:K.In h):Frag:=K
theorem walk_of{l:PySem.W.OpenLaw}{n k:Nat}{q:Program}{loose:List Str}{XP:(Str->Option Value)->Heap->Prop}{YP:World->Heap->Prop}{d:DefRec}{K:Params->Frag}{CX:World->CXT}{sp:World->Sp}{x:Str}
  (hn:l.most=some n) (hn2:n<=sizeLine) (hdf:d.params.defaults=[]) (hr:Room k callerA)
  (hY:∀ (w:World) (h:Heap),YP w h->(K w.params).In h)
  (F:∀ (w:World) (mg:Str->Option Value) (fa:Addr) (h:Heap),(K w.params).In h->h.Ns mainGlobals mg->mg d.name=some (.ref fa)->
   ∃ fd:FuncData,(∀ (s:Shared) (u:Value),BindsTo s fd ⟨[u],[]⟩ [(x,u)]) /\
    ∀ base:Heap,(K w.params).In base->base.Ns mainGlobals mg->FnOk l.prog w (K w.params) mg base (CX w) k fa fd [x] (sp w))
  (hsp:∀ (w:World) (H:Hp) (a:Addr) (ns:List Int),ns.length<=n->aG6 H->SqL (K w.params) H a (ns.map V.int)->sp w [.ref a] H (fun v _=>v=.bl true) fun _ _ _=>False)
  (hCX:∀ (w:World) (H:Hp) (s:Shared) (e:Value) (s':Shared),CX w [] H s (fun _ _ _=>False) e s'->False) :
  PySem.W.WalkO q loose XP YP l.row.toRowW d [] (fun f vs=>PySem.call f vs):=by
 refine Att.attach_call hn hdf fun w s₀ s₁ mg mb fa o pm cd doc a vs ns G Y ho hd hcd hmg hobj hints hlen hg=>?_
 have KX:=hY w _ Y
 obtain ⟨fd,hb,hF⟩:=F w mg fa _ KX G.T.g hmg
 exact aG7 KX G.T.g G.T.b G.T.builtins G.T.nolimit hg hobj hints (Nat.le_trans hlen hn2) hr hF hb (fun H hO hS=>hsp w H a ns hlen hO hS) fun H e s'=>hCX w H s₁ e s'
end L2
namespace L2
open PySem PySem.Spec PyProof.Rows
noncomputable def aQ(s:Stmt)(j:Nat):Stmt:=match s with
 | .ClassDef _ _ _ body _ _ _ _ _ _ _=>body.getD j (.Pass ⟨0,0,0,0⟩)
 | _=>.Pass ⟨0,0,0,0⟩
noncomputable def dD(s:Stmt):Arguments:=match s with
 | .FunctionDef _ a _ _ _ _ _ _ _ _=>a
 | _=>{posonlyargs:=[],args:=[],vararg:=none,kwonlyargs:=[],kw_defaults:=[],kwarg:=none,defaults:=[]}
noncomputable def cC(s:Stmt):List Stmt:=match s with
 | .FunctionDef _ _ b _ _ _ _ _ _ _=>b
 | _=>[]
noncomputable def aM(s:Stmt):Scope:=match s with
 | .FunctionDef _ _ _ _ _ _ sc _ _ _=>sc
 | _=>{kind:=.function,names:=[],isGenerator:=false,isCoroutine:=false}
abbrev CX0:CXT:=fun _ _ _ _ _ _=>False
abbrev E0:XK:=fun _ _ _=>False
theorem yS{X:Cx}:jI CX0 X E0:=fun _ _ _ _ _ _ _ h=>h.elim
structure Fun(K:Frag)(x qual:Str)(st:Stmt)(f:Addr)(fd:FuncData):Prop where
 ex:∃ (oc:Value) (od:Option Addr) (kV doc pm:Value) (an:Option Addr) (cdv ct:Value) (osl:Array (Option Value)),
  fd=PySem.W.fnOf x qual (dD st) (cC st) (aM st) .none kV doc pm an cdv ct/\K.lookup f=some ⟨oc,od,.func fd,osl⟩/\PySem.W.codeIn K cdv qual=true
 kp:PySem.W.keepIn K (.ref f)=true
section
variable{P:Program}{w:World}{K:Frag}{mg:Str->Option Value}{base:Heap}
theorem Fun.ok{x qual:Str}{st:Stmt}{f:Addr}{fd:FuncData}{N ps:List Str}{k:Nat}{sp:Sp}(F:Fun K x qual st f fd)(S:FnScope N ps (aM st))(len:∀ vs H Q E,sp vs H Q E->vs.length=ps.length)
  (hbody:∀ (cdv:Value) (A:Around) (outer:List Env) (s:Shared) (H:Hp) (vs:List V) (Q:VK) (E:XK),Room k (A.deeper (envOfC qual (aM st) s.heap.objs.size f cdv))->sp vs H Q E->
   ∃ t,PSs (i7 CX0 P w K mg base N qual (aM st) f cdv A outer s H E).nox (cC st) t/\t {nx:=fun _ H'=>Q .non H',rt:=Q} (start N vs) H):FnOk P w K mg base CX0 (k+1) f fd ps sp:=by
 obtain ⟨oc,od,kV,doc,pm,an,cdv,ct,osl,rfl,lk,hcd⟩:=F.ex
 refine aI4 lk hcd S len fun A outer s H vs Q E hr hsp=>?_
 obtain ⟨t,h,q⟩:=hbody cdv A outer s H vs Q E hr hsp
 exact ⟨t,h.nox,q⟩
theorem Fun.binds{x qual:Str}{st:Stmt}{f:Addr}{fd:FuncData}{ps:List Str}(F:Fun K x qual st f fd)
  (h:∀ (kV doc pm:Value) (an:Option Addr) (cdv ct:Value) (us:List Value),us.length=ps.length->bindArgs (PySem.W.fnOf x qual (dD st) (cC st) (aM st) .none kV doc pm an cdv ct) ⟨us,[]⟩=pure (ps.zip us)):dC K fd ps []:=by
 obtain ⟨oc,od,kV,doc,pm,an,cdv,ct,osl,rfl,lk,hcd⟩:=F.ex
 exact .all (h kV doc pm an cdv ct)
theorem fN{x qual:Str}{st:Stmt}{f:Addr}{oc:Value}{od an:Option Addr}{osl:Array (Option Value)}{kV doc pm cdv ct:Value}(l:K.lookup f=some ⟨oc,od,.func (PySem.W.fnOf x qual (dD st) (cC st) (aM st) .none kV doc pm an cdv ct),osl⟩)
 (c:PySem.W.codeIn K cdv qual=true) (k:PySem.W.keepIn K (.ref f)=true):Fun K x qual st f (PySem.W.fnOf x qual (dD st) (cC st) (aM st) .none kV doc pm an cdv ct):=⟨⟨oc,od,kV,doc,pm,an,cdv,ct,osl,rfl,l,c⟩,k⟩
end
section
variable{X:Cx}
theorem pv(i:Nat){x:Str}{pos:Pos}(hN:X.N[i]? = some x:=by rfl)(hv:Vis X.env.scope x:=by first|exact Or.inl rfl|exact Or.inr (Or.inl rfl)|exact Or.inr (Or.inr rfl))(hd:(x == ("__debug__":Str))=false:=by decide)
 (hcd:(x == ("__classdict__":Str))=false:=by decide):PE X (.Name x pos) (gF i):=aLX hN hv hd hcd
end
theorem qD{A B:Prop}(h:B):if false=true then A else B:=by
 rw[if_neg Bool.false_ne_true]
 exact h
theorem qE{A B:Prop}(h:A):if true=true then A else B:=by
 rw[if_pos rfl]
 exact h
def aR(H H':Hp):Prop:=∀ b o,H b=some o->H' b=some o
theorem aR.trans{H H1 H2:Hp}(a:aR H H1)(b:aR H1 H2):aR H H2:=fun c o h=>b c o (a c o h)
theorem aR.free{H H':Hp}(e:aR H H'){l:Addr}(h:H' l=Option.none):H l=Option.none:=by
 cases q:H l with
 | none=>rfl
 | some o=>
  rw[e l o q] at h
  cases h
theorem aR.seq{K:Frag}{H H':Hp}{a:Addr}{xs:List V}(e:aR H H')(h:SqL K H a xs):SqL K H' a xs:=by
 rcases h with (h|⟨o,h⟩)|h
 · exact .inl (.inl (e _ _ h))
 · exact .inl (.inr ⟨o, e _ _ h⟩)
 · exact .inr h
end L2
namespace L2
open PySem PySem.Spec PyProof.Rows
theorem aDQ{env:Env}:∀ (names:List (Str×NameKind)) (acc:List (Str×Addr)),(∀ x∈names,x.2=.free->∃ c,env.cells.lookup x.1=some c)->
  (∀ x c,acc.lookup x=some c->env.cells.lookup x=some c)->
  ∃ cl,(forIn names acc fun x r=>(if (x.2 == NameKind.free)=true then (do let a <-cellOf env x.1;pure (ForInStep.yield ((x.1,a)::r))) else pure (ForInStep.yield r)):Sem (List (Str×Addr)))=pure cl /\
   (∀ x c,cl.lookup x=some c->env.cells.lookup x=some c)/\(∀ x∈names,x.2=.free->∃ c,cl.lookup x.1=some c)/\∀ x c,acc.lookup x=some c->∃ c',cl.lookup x=some c':=by
 intro names
 induction names with
 | nil=>intro acc _ h;exact ⟨acc,rfl,h,fun x hx=>absurd hx (by simp),fun x c e=>⟨c,e⟩⟩
 | cons x r ih=>
  intro acc hf h
  obtain ⟨n,k⟩:=x
  by_cases hk:k=.free
  ·subst hk
   obtain ⟨c,hc⟩:=hf (n,.free) List.mem_cons_self rfl
   have hc:env.cells.lookup n=some c:=hc
   obtain ⟨cl,e1,e2,e3,e4⟩:=ih ((n,c)::acc) (fun y hy=>hf y (List.mem_cons_of_mem _ hy)) (fun y d e=>by
    rw[List.lookup_cons] at e
    cases q:y == n with
    | true=>rw[q] at e;cases e;have:=eq_of_beq q;subst this;exact hc
    | false=>rw[q] at e;exact h y d e)
   refine ⟨cl,?_,e2,fun y hy hyf=>?_,fun y d e=>?_⟩
   ·rw[List.forIn_cons]
    simp only[beq_self_eq_true,if_true]
    unfold cellOf
    simp only[hc,pure_bind]
    exact e1
   ·rcases List.mem_cons.mp hy with z|z
    ·subst z
     exact e4 n c (by rw[List.lookup_cons];simp)
    ·exact e3 y z hyf
   ·by_cases q:y=n
    ·subst q;exact e4 y c (by rw[List.lookup_cons];simp)
    ·exact e4 y d (by rw[List.lookup_cons,beq_false_of_ne q];exact e)
  ·obtain ⟨cl,e1,e2,e3,e4⟩:=ih acc (fun y hy=>hf y (List.mem_cons_of_mem _ hy)) h
   refine ⟨cl,?_,e2,fun y hy hyf=>?_,e4⟩
   ·rw[List.forIn_cons]
    have:(k == NameKind.free)=false:=by simpa using hk
    simp only[this,Bool.false_eq_true,if_false,pure_bind]
    exact e1
   ·rcases List.mem_cons.mp hy with z|z
    ·subst z;exact absurd hyf hk
    ·exact e3 y z hyf
theorem uA{env:Env}{scope:Scope}(hf:∀ x∈scope.names,x.2=.free->∃ c,env.cells.lookup x.1=some c) :
  ∃ cl,closureFor scope env=pure cl/\(∀ x c,cl.lookup x=some c->env.cells.lookup x=some c)/\∀ x∈scope.names,x.2=.free->∃ c,cl.lookup x.1=some c:=by
 obtain ⟨cl,e1,e2,e3,_⟩:=aDQ scope.names [] hf (fun x c e=>by simp at e)
 refine ⟨cl,?_,e2,e3⟩
 unfold closureFor
 first
  | exact e1
  | (rw[<-e1];rfl)
  | (simp only[bind_pure];exact e1)
theorem gM{env:Env}:∀ {names:List (Str×NameKind)} {x:Str} {k:NameKind},
  (names.map fun (n,k)=>if (k == NameKind.free && env.scope.kind == .function && env.kindOf n == some .cell) then (n,NameKind.cell) else (n,k)).lookup x=some k->
  k=.cell\/k=.free->(∀ y∈names,y.2≠.cell)->(x,NameKind.free)∈names
 | [],_,_,h,_,_=>by simp at h
 | (n,k0)::r,x,k,h,hk,hc=>by
  have ih:=@gM env r x k
  rw[List.map_cons] at h
  dsimp only at h
  by_cases hx:x=n
  ·subst hx
   by_cases hcond:(k0 == NameKind.free && env.scope.kind == .function && env.kindOf x == some .cell)=true
   ·have:k0=.free:=by
     simp only[Bool.and_eq_true] at hcond
     exact eq_of_beq hcond.1.1
    subst this
    exact List.mem_cons_self
   ·rw[if_neg hcond,List.lookup_cons] at h
    simp only[beq_self_eq_true] at h
    cases h
    rcases hk with rfl|rfl
    ·exact absurd rfl (hc _ List.mem_cons_self)
    ·exact List.mem_cons_self
  ·have hb:(x == n)=false:=beq_false_of_ne hx
   refine List.mem_cons_of_mem _ (ih ?_ hk fun y hy=>hc y (List.mem_cons_of_mem _ hy))
   split at h
   ·rw[List.lookup_cons,hb] at h;exact h
   ·rw[List.lookup_cons,hb] at h;exact h
noncomputable def fO(X:Cx)(N:List Str)(scope:Scope)(cl:List (Str×Addr))(C:Addr)(s:Shared)(H:Hp)(fp:List Addr):Cx where
 prog:=X.prog
 w:=X.w
 K:=X.K
 mg:=X.mg
 base:=X.base
 A:=X.A
 N:=N
 s₀:=s
 H₀:=H
 env:=compEnvC scope cl C X.env
 outer:=X.stack
 stack:=X.stack
 ex:=fp
 calm:=X.calm
 fn:=fun _=>false
 pn:=[]
 xe:=fun _ _=>False
inductive Caps(X:Cx)(scope:Scope):List Str->List (Option Nat)->Prop
 | nil:Caps X scope [] []
 | own {x:Str} {N:List Str} {js:List (Option Nat)} (t:Caps X scope N js):Caps X scope (x::N) (none::js)
 | cap {x:Str} {j:Nat} {N:List Str} {js:List (Option Nat)} (h1:X.N[j]? = some x) (h2:X.env.kindOf x=some .cell\/X.env.kindOf x=some .free)
  (h3:(relabel scope X.env).names.lookup x=some .cell\/(relabel scope X.env).names.lookup x=some .free) (t:Caps X scope N js):Caps X scope (x::N) (some j::js)
theorem Caps.len{X:Cx}{scope:Scope}{N:List Str}{js:List (Option Nat)}(c:Caps X scope N js):js.length=N.length:=by
 induction c with
 | nil=>rfl
 | own _ ih=>simp[ih]
 | cap _ _ _ _ ih=>simp[ih]
theorem Caps.get{X:Cx}{scope:Scope}{N:List Str}{js:List (Option Nat)}(c:Caps X scope N js):∀ {i j:Nat} {x:Str},js[i]? = some (some j)->N[i]? = some x->
  X.N[j]? = some x/\(X.env.kindOf x=some .cell\/X.env.kindOf x=some .free)/\((relabel scope X.env).names.lookup x=some .cell\/(relabel scope X.env).names.lookup x=some .free):=by
 induction c with
 | nil=>intro i j x h;simp at h
 | own _ ih=>
  intro i j x h1 h2
  cases i with
  | zero=>simp at h1
  | succ i=>exact ih (by simpa using h1) (by simpa using h2)
 | cap a b d _ ih=>
  intro i j x h1 h2
  cases i with
  | zero=>
   simp at h1 h2
   subst h1 h2
   exact ⟨a,b,d⟩
  | succ i=>exact ih (by simpa using h1) (by simpa using h2)
noncomputable def kS(js:List (Option Nat))(σ:St):St:=js.map fun o=>o.bind fun j=>(σ[j]?).join
def eI(σ σ':St):Prop:=σ'.length=σ.length/\∀ (i:Nat) v,σ[i]? = some (some v)->σ'[i]? = some (some v)
theorem eI.refl(σ:St):eI σ σ:=⟨rfl,fun _ _ h=>h⟩
theorem eI.set{σ:St}{i:Nat}{v:Option V}(h:σ[i]? = some none):eI σ (σ.set i v):=by
 refine ⟨List.length_set,fun j u e=>?_⟩
 by_cases q:i=j
 · subst q; rw [h] at e; cases e
 · rw [List.getElem?_set_ne q]; exact e
theorem eI.trans{a b c:St}(h:eI a b)(k:eI b c):eI a c:=⟨k.1.trans h.1,fun i v e=>k.2 i v (h.2 i v e)⟩
section
variable{X:Cx}
def PIf(X:Cx)(ifs:List Expr)(t:TT):Prop:=
 ∀ (pins:List (Addr×Obj)) (s:Shared) (σ:St) (H:Hp) (Q:Bool->Hp->Prop),Inv X pins σ H s->t σ H Q->
  wpAny (model X.prog X.w) X.A (forIn ifs true fun c r=>if r=true then do let ok <-isTrue c X.env (eval c X.env);pure (ForInStep.yield ok) else pure (ForInStep.yield r)) (TP X pins σ Q) X.xe s
def aMN:TT:=fun _ H Q=>Q true H
theorem kT:PIf X [] aMN:=by
 intro pins s σ H Q I h
 show wpAny _ _ (pure true) _ _ s
 exact wpAny_pure ⟨H,I,h⟩
end
def vU(X:Cx)(N:List Str)(scope:Scope)(js:List (Option Nat))(tg elt:Expr)(ifs:List Expr)(σ:St)(x:V)(H:Hp)(R:Option V->Hp->Prop):Prop:=
 ∀ (cl:List (Str×Addr)) (C:Addr) (s:Shared) (H0:Hp) (fp:List Addr),∃ (g:TG) (tt:TT) (te:TE),PG (fO X N scope cl C s H0 fp) tg g/\PIf (fO X N scope cl C s H0 fp) ifs tt/\PE (fO X N scope cl C s H0 fp) elt te /\
  ∀ σ0,eI (kS js σ) σ0->g x σ0 H fun σ2 H2=>eI (kS js σ) σ2/\tt σ2 H2 fun b H3=>if b=true then te σ2 H3 fun y H4=>R (some y) H4 else R none H3
def compK(X:Cx)(N:List Str)(scope:Scope)(js:List (Option Nat))(tg elt:Expr)(ifs:List Expr)(σ:St)(Q:VK)(J:It)(H1:Hp):Prop:=∃ (n:Nat) (W:Nat->List V->Hp->Prop),n<=sizeLine/\W 0 [] H1 /\
 ∀ i ys H,W i ys H->ys.length<=i/\((J.stop i H/\∀ p,H p=none->Q (.ref p) (upd H p (.lst ys)))\/(J.go i H/\i < n/\∃ R:Option V->Hp->Prop,(∀ y H2,R (some y) H2->W (i+1) (ys++[y]) H2)/\(∀ H2,R none H2->W (i+1) ys H2) /\
  ∀ x H',J.yld i H x H'->vU X N scope js tg elt ifs σ x H' R))
def rP(X:Cx)(N:List Str)(scope:Scope)(js:List (Option Nat))(tg elt:Expr)(ifs:List Expr)(wi:TI):TE:=fun σ H Q=>wi σ H (compK X N scope js tg elt ifs σ Q)
end L2
namespace L2
open PySem PySem.Spec PyProof.Rows
section
variable{prog:Program}{w:World}{A:Around}{R:Result->Shared->Prop}{s:Shared}
theorem zI{elt target iter:Expr}{ifs:List Expr}{scope:Scope}{pos:Pos}{it acc:Value}{env:Env}(I:Nat->Shared->Prop)
  (turn:∀ n s,I n s->wpAny (model prog w) A (pyNext it) (fun r s1=>match r with
   | none=>R (.ok .next) s1
   | some v=>wpAny (model prog w) A (letOwnedTupleGo target it v) (fun _ s1'=>wpAny (model prog w) A (assign target env v) (fun _ s2=>
    wpAny (model prog w) A (forIn ifs true fun c r=>if r=true then do let ok <-isTrue c env (eval c env);pure (ForInStep.yield ok) else pure (ForInStep.yield r)) (fun ok s3=>
     if ok=true then wpAny (model prog w) A (eval elt env) (fun x s4=>
      wpAny (model prog w) A (call (.builtin "list.append") [acc,x]) (fun _ s5=>∃ m,m < n/\I m s5) (fun _ _=>False) s4) (fun _ _=>False) s3
     else ∃ m,m < n/\I m s3) (fun _ _=>False) s2) (fun _ _=>False) s1') (fun _ _=>False) s1) (fun _ _=>False) s)
  (n:Nat) (h:I n s) :
  codeAny (model prog w) A (.compLoop (.ListComp elt [⟨target,iter,ifs,0⟩] scope pos) 0 it acc env) R s:=by
 refine codeAny_loop rfl I (fun n s hI=>?_) n h
 show wpAny _ A ((compTurn (.ListComp elt [⟨target,iter,ifs,0⟩] scope pos) 0 it acc env).onRaise (fun x=>do noteFrame x env;theTreesLotGoes x)) _ _ s
 refine wpAny_noted ?_
 rw[compTurn_list]
 have nr:∀ {α:Type} {t:Sem α} {Q:α->Shared->Prop} {E':Value->Shared->Prop} {s:Shared},wpAny (model prog w) A t Q (fun _ _=>False) s->wpAny (model prog w) A t Q E' s:=fun h=>wpAny_mono h (fun _ _ q=>q) fun _ _ f=>f.elim
 refine wpAny_bind (wpAny_standAt (wpAny_bind (wpAny_mono (turn n s hI) (fun r s₁ h₁=>?_) fun _ _ h'=>h'.elim)))
 cases r with
 | none=>exact wpAny_pure h₁
 | some v=>
  refine wpAny_bind (wpAny_mono h₁ (fun _ s1' h1'=>?_) fun _ _ f=>f.elim)
  refine wpAny_bind (wpAny_mono h1' (fun _ s₂ h₂=>wpAny_bind (wpAny_mono h₂ (fun ok s₃ h₃=>?_) fun _ _ h'=>h'.elim)) fun _ _ h'=>h'.elim)
  cases ok with
  | false=>exact wpAny_pure ⟨rfl,h₃⟩
  | true=>
   exact wpAny_bind (wpAny_bind (wpAny_mono h₃ (fun x s₄ h₄=>wpAny_bind (wpAny_mono h₄ (fun _ s₅ h₅=>wpAny_pure (wpAny_pure ⟨rfl,h₅⟩)) fun _ _ h'=>h'.elim)) fun _ _ h'=>h'.elim))
end
theorem HOk.track{P:Program}{w:World}{H:Hp}{h:Heap}{a:Addr}{o:HO}(x:HOk P w H h)(hn:H a=none)(new:cS P w (upd H a o) h a o):HOk P w (upd H a o) h:=fun b u e=>by
 by_cases hb:b=a
 ·subst hb;rw[aY] at e;cases e;exact new
 ·rw[aP hb] at e
  exact (x b u e).stay (fun c v _ q=>q) (fun c q=>by rw[aP (c6 q hn)];exact q) (fun c xs q=>by rw[aP (c6 q hn)];exact q) fun c xs q=>by rw[aP (c6 q hn)];exact q
section
variable{X:Cx}{pins:List (Addr×Obj)}{σ:St}
structure CompEnd(X:Cx)(pins:List (Addr×Obj))(σ:St)(D C:Addr)(ys:List V)(H':Hp)(s':Shared):Prop where
 inv:Inv X pins σ (upd H' D (.lst ys)) s'
 ns:∃ m,s'.heap.Ns C m
 fp:i6 X pins (upd H' D (.lst ys)) C
 nD:H' D=none
theorem CompEnd.gone{D C:Addr}{ys:List V}{H H':Hp}{s':Shared}{h'':Heap}{σ':St}(I:Inv X pins σ' H s')(fp:i6 X pins H C)(hs:Heap.SameBut C s'.heap h''):Inv X pins σ' H {s' with heap:=h''}:=
 I.turned (it:=C) (t':=s'.toks) (fun b o hb e=>(hs.2 b hb).trans e) fp.1 fp.2.1 fp.2.2.2.1 fp.2.2.2.2.1 fp.2.2.2.2.2
theorem zJ{prog:Program}{w:World}{A:Around}{E:Value->Shared->Prop}{s:Shared}{l:Addr}{items:Array Value}{nn:Nat}{x:Value}{Q:Value->Shared->Prop}(e:s.heap.get? l=some {cls:=.type "list",dict:=none,data:=.seq items nn})(hz:items.size<=sizeLine)
  (hQ:∀ nn' h',h'.get? l=some {cls:=.type "list",dict:=none,data:=.seq (items.push x) nn'}->Heap.SameBut l s.heap h'->Q .none {s with heap:=h'}) :
  wpAny (model prog w) A (call (.builtin "list.append") [.ref l,x]) Q E s:=by
 refine call_meets F.slot_list_append ⟨_,e,rfl⟩ F.entry_list_append (F.args_list_append_2 _ _) (PySem.list_append l items nn x (by omega)) ⟨e,?_⟩
 exact hQ _ _ (Heap.get?_update_self _ e rfl) (Heap.SameBut.update ..)
theorem uB{N:List Str}{js:List (Option Nat)}{scope:Scope}{tg elt iter:Expr}{ifs:List Expr}{cl:List (Str×Addr)}{pos:Pos}{it:Addr}{fp:List Addr}{tn:Nat->Heap->Prop}{J:It}{s2:Shared}{H2:Hp}{E:Value->Shared->Prop}
  {RR:Value->Addr->Result->Shared->Prop} {Q:VK} (hc:X.calm=true) (caps:Caps X scope N js) (hkind:scope.kind=.function) (hcell:∀ y∈scope.names,y.2≠.cell)
  (hcl1:∀ x c,cl.lookup x=some c->X.env.cells.lookup x=some c) (hcl2:∀ x∈scope.names,x.2=.free->∃ c,cl.lookup x.1=some c)
  (I:Inv X pins σ H2 s2) (T:Turn X.prog X.w X.K tg J fp it tn) (st2:tn 0 s2.heap) (f2:∀ b∈fp,i6 X pins H2 b) (n:Nat) (W:Nat->List V->Hp->Prop) (hn:n<=sizeLine) (w0:W 0 [] H2)
  (turn:∀ i ys H,W i ys H->ys.length<=i/\((J.stop i H/\∀ p,H p=none->Q (.ref p) (upd H p (.lst ys)))\/(J.go i H/\i < n/\∃ R:Option V->Hp->Prop,(∀ y H2,R (some y) H2->W (i+1) (ys++[y]) H2)/\(∀ H2,R none H2->W (i+1) ys H2) /\
   ∀ x H',J.yld i H x H'->vU X N scope js tg elt ifs σ x H' R)))
  (hRR:∀ D C ys H' s',CompEnd X pins σ D C ys H' s'->Q (.ref D) (upd H' D (.lst ys))->RR (.ref D) C (.ok .next) s') :
  wpAny (model X.prog X.w) X.A (newList []) (fun acc s3=>wpAny (model X.prog X.w) X.A (newFunctionEnv scope X.env.globals cl [] X.env.qual none .none (some X.env)) (fun cenv s4=>
   codeAny (model X.prog X.w) X.A (.compStart (.ListComp elt [⟨tg,iter,ifs,0⟩] scope pos) 0 (.ref it) acc {cenv with scope:=relabel scope X.env}) (RR acc cenv.locals) s4) E s3) E s2:=by
 refine wpAny_newObj_type (wpAny_newFunctionEnv hcell (by intro y hy;simp at hy) (fun h₁ hns₁ hsb₁=>?_) hkind)
 dsimp only at hns₁ hsb₁ ⊢
 generalize hHh:s2.heap.push {cls:=.type "list",dict:=none,data:=.seq ([]:List Value).toArray}=Hh at hns₁ hsb₁ ⊢
 have hC:Hh.objs.size=s2.heap.objs.size+1:=by rw[<-hHh,Heap.size_push]
 have hDC:s2.heap.objs.size≠Hh.objs.size:=by rw[hC];exact Nat.ne_of_lt (Nat.lt_succ_self _)
 have hCle:s2.heap.objs.size<=Hh.objs.size:=by rw[hC];exact Nat.le_succ _
 have old:∀ b o,s2.heap.get? b=some o->h₁.get? b=some o:=fun b o e=>hsb₁.extBut b o (by rw[hC];exact Nat.ne_of_lt (Nat.lt_succ_of_lt (Heap.lt_size e))) (Heap.get?_push_of_some _ (hHh▸Heap.get?_push_of_some _ e))
 have haccO:h₁.get? s2.heap.objs.size=some {cls:=.type "list",dict:=none,data:=.seq ([]:List Value).toArray}:=hsb₁.extBut _ _ hDC (Heap.get?_push_of_some _ (hHh▸Heap.get?_push_size _ rfl))
 have st1:tn 0 h₁:=T.keep _ _ _ st2 fun b hb o e=>old b o e
 have fplt:∀ b∈fp,b < s2.heap.objs.size:=fun b hb=>by
  obtain ⟨o,e,_⟩:=T.obj _ _ st2 b hb
  exact Heap.lt_size e
 have fsIn:∀ b∈frs X.stack,b < s2.heap.objs.size:=fun b hb=>by
  rcases List.mem_cons.mp (I.stkSub b hb) with z|z
  ·rw[z];exact I.lt
  ·refine Nat.lt_of_not_le fun hle=>I.nofs hle z
 have fpC:∀ b∈fp,b≠Hh.objs.size:=fun b hb z=>Nat.lt_irrefl _ (Nat.lt_of_lt_of_le (fplt b hb) (z▸hCle))
 generalize hD:s2.heap.objs.size=D at *
 generalize hCc:Hh.objs.size=C at *
 let X':=fO X N scope cl C s2 H2 fp
 have ok':X'.Ok:=by
  refine ⟨I.ok.mod,hkind,I.ok.glob,I.ok.blt,by show s2.heap.objs.size<=C;rw[hD];exact hCle,fun x y c e1 e2=>I.ok.inj x y c (hcl1 x c e1) (hcl1 y c e2),fun x hx=>?_,fun x c z=>absurd (show false=true from z) Bool.false_ne_true,I.ok.hd,I.ok.frames,.inl rfl,fun b hb=>?_,
   I.bs,Nat.le_trans I.ok.bsz I.sz,fun b o e hb=>?_,fun b hb z=>?_,I.stack,I.stkFree⟩
  ·have hm:(x,NameKind.free)∈scope.names:=by
    rcases hx with z|z
    ·exact gM (env:=X.env) z (.inl rfl) hcell
    ·exact gM (env:=X.env) z (.inr rfl) hcell
   exact hcl2 _ hm rfl
  ·exact ⟨fpC b hb,fun x c e=>(f2 b hb).2.2.2.2.1 x c (hcl1 x c e)⟩
  ·rcases (f2 b hb).2.2.2.1 with z|z
   ·exact I.ok.noex b o e z
   ·exact absurd (Heap.lt_size (I.ok.bs b o e).1) (Nat.not_lt.mpr z)
  ·rcases List.mem_cons.mp (I.stkSub b z) with q|q
   ·exact (f2 b hb).2.1 q
   ·exact (f2 b hb).2.2.1 q
 have hσl:(kS js σ).length=N.length:=by unfold kS;rw[List.length_map,caps.len]
 have freeC:H2 C=none:=I.hok.fresh (by rw[hD];exact hCle)
 have freeD:H2 D=none:=I.hok.fresh (by rw[hD];exact Nat.le_refl _)
 have DnotFs:D∉frs X.stack:=fun z=>Nat.lt_irrefl _ (fsIn D z)
 have DnotFp:D∉fp:=fun z=>Nat.lt_irrefl _ (fplt D z)
 have I0:∀ tk,Inv X' [] (kS js σ) H2 {s2 with heap:=h₁,toks:=tk}:=fun tk=>by
  refine ⟨ok',rfl,I.bare,Un.kept old,⟨_,hns₁,fun i x v e1 e2 e3=>?_⟩,fun x c e=>?_,freeC,fun x c e=>I.freeC x c (hcl1 x c e),fun p hp=>absurd hp (by show ¬ p∈([]++[]:List (Addr×Obj));simp),I.hok.kept old,hσl⟩
  ·unfold kS at e2
   rw[List.getElem?_map] at e2
   cases q:js[i]? with
   | none=>rw[q] at e2;cases e2
   | some o=>
    rw[q] at e2
    cases o with
    | none=>cases e2
    | some j=>
     have e2':(σ[j]?).join=some v:=Option.some.inj e2
     obtain ⟨c1,c2,c3⟩:=caps.get q e1
     have e4:σ[j]? = some (some v):=by
      cases z:σ[j]? with
      | none=>rw[z] at e2';cases e2'
      | some u=>rw[z] at e2';have:u=some v:=e2';rw[this]
     obtain ⟨m,hm,hl⟩:=I.loc
     have vis:Vis X.env.scope x:=by
      rcases c2 with z|z
      · exact .inr (.inl z)
      · exact .inr (.inr z)
     obtain ⟨u,r,l⟩:=hl j x v c1 e4 vis
     refine ⟨u,r,.inr ⟨c3,?_⟩⟩
     have lc:∃ c,X.env.cells.lookup x=some c/\s2.heap.IsCell c (some u):=by
      rcases l with ⟨k,_⟩|⟨_,z⟩
      · rcases c2 with z | z <;> (rw [k] at z; cases z)
      · exact z
     obtain ⟨c,e5,o,ho,hd⟩:=lc
     have hm2:(x,NameKind.free)∈scope.names:=by
      rcases c3 with z|z
      · exact gM (env := X.env) z (.inl rfl) hcell
      · exact gM (env := X.env) z (.inr rfl) hcell
     obtain ⟨c',e6⟩:=hcl2 _ hm2 rfl
     have e7:=hcl1 _ _ e6
     rw[e5] at e7;cases e7
     exact ⟨c,e6,o,old c o ho,hd⟩
  ·obtain ⟨v,o,ho,hd⟩:=I.cell x c (hcl1 x c e)
   exact ⟨v,o,old c o ho,hd⟩
 have fpok:∀ {H':Hp} {pl:List (Addr×Obj)},(∀ b∈fp,H' b=none)->(∀ b∈fp,∀ p∈pl,p.1≠b)->∀ b∈fp,i6 X' pl H' b:=fun {H' pl} hn hpl b hb=>by
  refine ⟨hn b hb,fpC b hb,ok'.exfs b hb,.inl hb,fun x c e=>(f2 b hb).2.2.2.2.1 x c (hcl1 x c e),fun p hp=>hpl b hb p ?_⟩
  have hp':p∈[]++pl:=hp
  simpa using hp'
 let LI:Nat->Shared->Prop:=fun k s'=>∃ i ys its nn σ' H',k=n+1 - i/\i<=n/\W i ys H'/\tn i s'.heap/\(∀ b∈fp,H' b=none)/\bJ ys its/\eI (kS js σ) σ' /\
  Inv X' [(D,{cls:=.type "list",dict:=none,data:=.seq its.toArray nn})] σ' H' s'
 have loop:∀ tk,codeAny (model X.prog X.w) X.A (.compLoop (.ListComp elt [⟨tg,iter,ifs,0⟩] scope pos) 0 (.ref it) (.ref D) (compEnvC scope cl C X.env)) (RR (.ref D) C) {s2 with heap:=h₁,toks:=tk}:=by
  intro tk
  refine zI LI ?_ (n+1) ⟨0,[],[],0,kS js σ,H2,rfl,Nat.zero_le _,w0,st1,fun b hb=>(f2 b hb).1,.nil,eI.refl _,?_⟩
  ·rintro k s3 ⟨i,ys,its,nn,σ3,H3,rfl,hin,w3,st3,fr3,r3,ks,I3⟩
   obtain ⟨hyl,tr⟩:=turn i ys H3 w3
   have fpk:=fpok (pl:=[(D,{cls:=.type "list",dict:=none,data:=.seq its.toArray nn})]) fr3 (fun b hb p hp z=>by
    rw[List.mem_singleton.mp hp] at z
    exact DnotFp ((show D=b from z)▸hb))
   rcases tr with ⟨stop,q⟩|⟨go,hlt,RW,hR1,hR2,step⟩
   ·refine thn (T.done X' rfl rfl rfl hc i _ s3 σ3 H3 _ I3 fpk st3 stop) fun r s4 zz0=>?_
    obtain ⟨hr,I4⟩:=zz0
    subst hr
    show RR (.ref D) C (.ok .next) s4
    obtain ⟨pe,pn,p1,p2,p3⟩:=I4.pin (D,{cls:=.type "list",dict:=none,data:=.seq its.toArray nn}) (by show _∈[]++_;simp)
    refine hRR D C ys H3 s4 ?_ (q D pn)
    have hok4:HOk X.prog X.w (upd H3 D (.lst ys)) s4.heap:=HOk.track I4.hok pn ⟨Nat.le_trans hyl (Nat.le_trans hin hn),its,nn,r3,pe⟩
    have ltD:∀ b u,H2 b=some u->b≠D:=fun b u e z=>by rw[z,freeD] at e;cases e
    have un4:Un (frs X.stack) fp H2 (upd H3 D (.lst ys)) s2.heap s4.heap:=by
     have ub:=I4.base
     refine ⟨ub.keep,ub.slot,fun b o e nn' hx=>?_,ub.there,fun b xs e=>?_,fun b o u e=>?_,fun b ps e=>?_⟩
     ·rw[aP (fun z=>by have:=Heap.lt_size e;rw[hD,z] at this;exact Nat.lt_irrefl _ this)]
      exact ub.free b o e nn' hx
     ·rw[aP (ltD b _ e)];exact ub.tups b xs e
     ·rw[aP (ltD b _ e)];exact ub.frzs b o u e
     ·rw[aP (ltD b _ e)];exact ub.tbls b ps e
    refine ⟨I.call' I4.os un4 hok4 I4.bare fun b hb=>⟨(f2 b hb).2.2.2.1,(f2 b hb).2.1,(f2 b hb).2.2.2.2.1,(f2 b hb).2.2.2.2.2⟩,?_,?_,pn⟩
    ·obtain ⟨m,hm,_⟩:=I4.loc
     exact ⟨m,hm⟩
    ·refine I.fpOk (by rw[hD];exact hCle) ?_
     rw[aP (Ne.symm hDC)]
     exact I4.free
   ·refine thn (T.item X' rfl rfl rfl hc i _ s3 σ3 H3 _ I3 fpk st3 go) fun r s4 zz0=>?_
    obtain ⟨u,hr,h4⟩:=zz0
    subst hr
    show wpAny _ _ (letOwnedTupleGo tg (.ref it) u) _ _ s4
    refine thn h4 fun _ s5 zz0=>?_
    obtain ⟨x,H5,I5,r5,y5,st5,fr5⟩:=zz0
    obtain ⟨g,tt,te,hg,ht,he,hq⟩:=step x H5 y5 cl C s2 H2 fp
    have fpk5:=fpok (pl:=[(D,{cls:=.type "list",dict:=none,data:=.seq its.toArray nn})]) fr5 (fun b hb p hp z=>by
     rw[List.mem_singleton.mp hp] at z
     exact DnotFp ((show D=b from z)▸hb))
    have I5':=I5.pinned fpk5 (T.obj _ _ st5)
    refine thn (hg _ s5 σ3 H5 x u _ I5' r5 (hq σ3 ks)) fun _ s6 zz0=>?_
    obtain ⟨σ6,H6,I6,ks6,q6⟩:=zz0
    refine thn (ht _ s6 σ6 H6 _ I6 q6) fun b s7 zz0=>?_
    obtain ⟨H7,I7,q7⟩:=zz0
    have stK:∀ {s':Shared} {H':Hp} {σ':St},Inv X' ([(D,{cls:=.type "list",dict:=none,data:=.seq its.toArray nn})]++p6 fp s5.heap) σ' H' s'->tn (i+1) s'.heap/\(∀ b∈fp,H' b=none):=fun {s' H' σ'} I'=>by
     refine ⟨T.keep _ _ _ st5 fun b hb o e=>(I'.pin (b,o) (List.mem_append_right _ (List.mem_append_right _ (l0 hb e)))).1,fun b hb=>?_⟩
     obtain ⟨o,e,d⟩:=T.obj _ _ st5 b hb
     exact (I'.pin (b,o) (List.mem_append_right _ (List.mem_append_right _ (l0 hb e)))).2.1
    cases b with
    | false=>
     rw[if_neg Bool.false_ne_true] at q7 ⊢
     obtain ⟨a1,a2⟩:=stK I7
     exact ⟨n+1 - (i+1),by omega,i+1,ys,its,nn,σ6,H7,rfl,hlt,hR2 _ q7,a1,a2,r3,ks6,I7.unpinned⟩
    | true=>
     rw[if_pos rfl] at q7 ⊢
     refine thn (he _ s7 σ6 H7 _ I7 q7) fun yv s8 zz0=>?_
     obtain ⟨y,H8,I8,r8,q8⟩:=zz0
     obtain ⟨a1,a2⟩:=stK I8
     have I8u:=I8.unpinned
     obtain ⟨pe,pn,p1,p2,p3⟩:=I8u.pin (D,{cls:=.type "list",dict:=none,data:=.seq its.toArray nn}) (by show _∈[]++_;simp)
     have hl8:s8.heap.IsList D its.toArray:=PySem.IsL.isList pe
     have isz:its.length<=sizeLine:=by rw[<-r3.length];exact Nat.le_trans hyl (Nat.le_trans hin hn)
     refine zJ pe (by simpa using isz) fun nn' h9 e9 hs9=>?_
     have I9:Inv X' [] σ6 H8 {s8 with heap:=h9,toks:=s8.toks}:=by
      refine Inv.turned (pins:=[]) (it:=D) (t':=s8.toks) (I8u.pins_of (pins':=[]) fun p hp=>absurd hp (by simp)) (fun b o hb e=>(hs9.2 b hb).trans e) pn hDC (.inr (by show s2.heap.objs.size<=D;rw[hD];exact Nat.le_refl _)) (fun x c e z=>?_) fun p hp=>absurd hp (by show ¬ p∈([]++[]:List (Addr×Obj));simp)
      obtain ⟨v,o,ho,hd⟩:=I.cell x c (hcl1 x c e)
      have:=Heap.lt_size ho
      rw[hD,z] at this
      exact Nat.lt_irrefl _ this
     refine ⟨n+1 - (i+1),by omega,i+1,ys++[y],its++[yv],nn',σ6,H8,rfl,hlt,hR1 _ _ q8,?_,a2,bJ.append r3 (.cons r8 .nil),ks6,?_⟩
     ·exact T.keep _ _ _ a1 fun b hb o e=>(hs9.2 b (fun z=>DnotFp (z▸hb))).trans e
     ·refine I9.pins_of fun p hp=>?_
      obtain rfl:=List.mem_singleton.mp hp
      exact ⟨by simpa using e9,pn,p1,p2,by simp⟩
  ·refine (I0 tk).pins_of fun p hp=>?_
   obtain rfl:=List.mem_singleton.mp hp
   exact ⟨haccO,freeD,hDC,DnotFs,by simp⟩
 exact codeAny_compStart_list (loop _) (T.self X.A 0 _ _ _ st1 (loop _))
noncomputable def eY(names:List (Str×NameKind))(outer:Str->Option NameKind):Bool:=
 names.all (fun y=>y.2 != .cell) && names.all (fun y=>y.2 != .local || names.lookup y.1 == some .local) && names.all (fun y=>y.2 != .free || outer y.1 == some .cell || outer y.1 == some .free)
theorem eY.cell{names:List (Str×NameKind)}{outer:Str->Option NameKind}(h:eY names outer=true):∀ y∈names,y.2≠.cell:=fun y hy=>by
 unfold eY at h
 simp only[Bool.and_eq_true,List.all_eq_true] at h
 simpa using h.1.1 y hy
theorem eY.names{names:List (Str×NameKind)}{outer:Str->Option NameKind}(h:eY names outer=true):∀ y∈names,y.2=.local->names.lookup y.1=some .local:=fun y hy e=>by
 unfold eY at h
 simp only[Bool.and_eq_true,List.all_eq_true] at h
 have:=h.1.2 y hy
 rw[e] at this
 simpa using this
theorem eY.free{names:List (Str×NameKind)}{outer:Str->Option NameKind}(h:eY names outer=true):∀ y∈names,y.2=.free->outer y.1=some .cell\/outer y.1=some .free:=fun y hy e=>by
 unfold eY at h
 simp only[Bool.and_eq_true,List.all_eq_true] at h
 have:=h.2 y hy
 rw[e] at this
 simpa using this
theorem vW{N:List Str}{js:List (Option Nat)}{scope:Scope}{tg elt iter:Expr}{ifs:List Expr}{pos:Pos}{wi:TI}(hc:X.calm=true)(caps:Caps X scope N js)(hok:eY scope.names X.env.kindOf=true)
  (hi:PI X tg iter wi) (hkind:scope.kind=.function:=by rfl) (hs:∀ x,foldedSetIterable iter X.env x=pure x:=by intro _;rfl) :
  PE X (.ListComp elt [⟨tg,iter,ifs,0⟩] scope pos) (rP X N scope js tg elt ifs wi):=by
 intro pins s σ H Q I h
 obtain ⟨cl,e1,e2,e3⟩:=uA (env:=X.env) (scope:=scope) fun x hx hf=>I.ok.has _ (eY.free hok x hx hf)
 rw[eval_ListComp]
 refine wpAny_comprehension_free (use:=none) rfl hs e1 hkind (eY.names hok) (thn (hi pins s σ H _ I h) fun v s1 h1=>thn h1 fun itv s2 h2=>?_)
 obtain ⟨it,fp,tn,J,H2,rfl,I2,T,st2,f2,n,W,hn,w0,turn⟩:=h2
 refine uB (RR:=fun acc C=>compPost (model X.prog X.w) X.A X.xe none (EP X pins σ Q) acc C) (Q:=Q) hc caps hkind (eY.cell hok) e2 e3 I2 T st2 f2 n W hn w0 turn ?_
 intro D C ys H' s' ce q
 obtain ⟨m,hm⟩:=ce.ns
 exact ⟨m,hm,fun h' hs'=>⟨.ref D,_,CompEnd.gone (D:=D) (ys:=ys) (H':=H') ce.inv ce.fp hs',rfl,q⟩⟩
theorem uC{i:Nat}{x:Str}{N:List Str}{js:List (Option Nat)}{scope:Scope}{tg elt iter:Expr}{ifs:List Expr}{pos pos' spos:Pos}{wi:TI}(hN:X.N.Nodup)(hi':X.N[i]? = some x)(hx:Loc X.env.scope x)
  (hsw:swapsWith (.ListComp elt [⟨tg,iter,ifs,0⟩] scope pos) (some (.Name x pos')) spos.line X.env=pure true) (hc:X.calm=true) (caps:Caps X scope N js) (hok:eY scope.names X.env.kindOf=true)
  (hi:PI X tg iter wi) (hkind:scope.kind=.function:=by rfl) (hf:X.fn x=true\/X.env.scope.names.lookup x=some .local:=by exact .inl rfl) (hs:∀ x,foldedSetIterable iter X.env x=pure x:=by intro _;rfl) :
  PS X (.Assign [.Name x pos'] (.ListComp elt [⟨tg,iter,ifs,0⟩] scope pos) spos) (jR (rP X N scope js tg elt ifs wi) (jN i)):=by
 intro pins s σ H D I h
 obtain ⟨cl,e1,e2,e3⟩:=uA (env:=X.env) (scope:=scope) fun x hx hf=>I.ok.has _ (eY.free hok x hx hf)
 rw[exec_Assign_Name_used _ _ _ _ hsw]
 refine wpAny_bind (wpAny_standAt (wpAny_bind ?_))
 show wpAny _ X.A (do let _ <-comprehension (.ListComp elt [⟨tg,iter,ifs,0⟩] scope pos) scope X.env _ (newList []) false (eval iter X.env) (some (assign (.Name x pos') X.env))) _ _ s
 refine wpAny_bind (wpAny_mono (wpAny_comprehension_free (use:=some (assign (.Name x pos') X.env)) (Q:=fun _ s'=>SP X pins D .next s') rfl hs e1 hkind (eY.names hok)
  (thn (hi pins s σ H _ I h) fun v s1 h1=>thn h1 fun itv s2 h2=>?_)) (fun _ s' hq=>wpAny_pure (wpAny_pure hq)) fun _ _ e=>e)
 obtain ⟨it,fp,tn,J,H2,rfl,I2,T,st2,f2,n,W,hn,w0,turn⟩:=h2
 refine uB (RR:=fun acc C=>compPost (model X.prog X.w) X.A X.xe (some (assign (.Name x pos') X.env)) (fun _ s'=>SP X pins D .next s') acc C) (Q:=fun v H'=>D.nx (σ.set i (some v)) H') hc caps hkind (eY.cell hok) e2 e3 I2 T st2 f2 n W hn w0 turn ?_
 intro L C ys H' s' ce q
 show wpAny _ X.A (assign (.Name x pos') X.env (.ref L)) _ _ s'
 refine wpAny_assign_Name (w4 (v:=.ref L) ce.inv hN hi' hx rfl (fun s'' I'' sb=>?_) hf)
 obtain ⟨a,hsa,ha⟩:=sb
 have hCa:C≠a:=by
  rcases ha with z|z
  · rw [z]; exact ce.fp.2.1
  · exact fun z' => ce.fp.2.2.2.2.1 x a z z'.symm
 obtain ⟨m,hm⟩:=ce.ns
 exact ⟨m,hm.sameBut hsa hCa,fun h' hs'=>⟨_,_,CompEnd.gone (D:=L) (ys:=ys) (H':=H') I'' ce.fp hs',q⟩⟩
end
noncomputable def aI6(W:Nat->List V->Hp->Prop)(i:Nat)(ys:List V):Option V->Hp->Prop
 | some y,H=>W (i+1) (ys++[y]) H
 | none,H=>W (i+1) ys H
theorem aB7{X:Cx}{J:It}{N:List Str}{scope:Scope}{js:List (Option Nat)}{tg elt:Expr}{ifs:List Expr}{σ:St}{Q:VK}{n:Nat}{H1:Hp}(W:Nat->List V->Hp->Prop)(hz:n<=sizeLine)(w0:W 0 [] H1)
  (hl:∀ i ys H,i<=n->W i ys H->ys.length<=i) (hgo:∀ i ys H,i < n->W i ys H->J.go i H) (hst:∀ ys H,W n ys H->J.stop n H)
  (step:∀ i x ys H H',i < n->W i ys H->J.yld i H x H'->vU X N scope js tg elt ifs σ x H' (aI6 W i ys))
  (done:∀ ys H,W n ys H->∀ p,H p=none->Q (.ref p) (upd H p (.lst ys))) :
  compK X N scope js tg elt ifs σ Q J H1:=by
 refine ⟨n,fun i ys H=>i<=n/\W i ys H,hz,⟨Nat.zero_le _,w0⟩,?_⟩
 rintro i ys H ⟨hi,w⟩
 refine ⟨hl i ys H hi w,?_⟩
 by_cases hlt:i < n
 ·exact .inr ⟨hgo i ys H hlt w,hlt,aI6 W i ys,fun y H2 q=>⟨hlt,q⟩,fun H2 q=>⟨hlt,q⟩,fun x H' y=>step i x ys H H' hlt w y⟩
 ·have e:i=n:=by omega
  subst e
  exact .inl ⟨hst ys H w,done ys H w⟩
end L2
namespace L2
open PySem PySem.Spec PyProof.Rows
mutual
inductive DatV(K:Frag)(H:Hp):V->PyData->Prop
 | non:DatV K H .non .none
 | bl (b:Bool):DatV K H (.bl b) (.bool b)
 | int (i:Int):DatV K H (.int i) (.int i)
 | str (x:Str):DatV K H (.str x) (.str x)
 | lst {a:Addr} {xs:List V} {ds:List PyData}:SqL K H a xs->DatVs K H xs ds->DatV K H (.ref a) (.list ds)
 | tup {a:Addr} {xs:List V} {ds:List PyData}:SqT K H a xs->DatVs K H xs ds->DatV K H (.ref a) (.tuple ds)
inductive DatVs(K:Frag)(H:Hp):List V->List PyData->Prop
 | nil:DatVs K H [] []
 | cons {x:V} {d:PyData} {xs:List V} {ds:List PyData}:DatV K H x d->DatVs K H xs ds->DatVs K H (x::xs) (d::ds)
end
section
variable{X:Cx}{pins:List (Addr×Obj)}{σ:St}{H:Hp}{s:Shared}
theorem DatV.reads(I:Inv X pins σ H s){x:V}{d:PyData}{u:Value}(h:DatV X.K H x d)(r:bS x u):∃ as,Reads s.heap u d as:=by
 refine DatV.rec (motive_1:=fun x d _=>∀ u,bS x u->∃ as,Reads s.heap u d as) (motive_2:=fun xs ds _=>∀ us,bJ xs us->∃ as,ReadsAll s.heap us ds as) ?_ ?_ ?_ ?_ ?_ ?_ ?_ ?_ h u r
 ·intro u r;cases r;exact ⟨_,.none⟩
 ·intro b u r;cases r;exact ⟨_,.bool b⟩
 ·intro i u r;obtain ⟨t,rfl⟩:=r;exact ⟨_,.int i t⟩
 ·intro x u r;obtain ⟨t,rfl⟩:=r;exact ⟨_,.str x t⟩
 ·intro a xs ds h _ ih u r
  cases r
  obtain ⟨its,rv,p,hz⟩:=I.list h
  obtain ⟨o,e,c,n,d⟩:=p.isList
  obtain ⟨as,q⟩:=ih _ rv
  exact ⟨_,.list e c d (by simpa using q)⟩
 ·intro a xs ds h _ ih u r
  cases r
  obtain ⟨its,rv,p,hz⟩:=I.tuple h
  obtain ⟨o,e,c,n,d⟩:=p
  obtain ⟨as,q⟩:=ih _ rv
  exact ⟨_,.tuple e c d (by simpa using q)⟩
 ·intro us r;cases r;exact ⟨_,.nil⟩
 ·intro x d xs ds _ _ i1 i2 us r
  cases r with
  | cons r1 r2=>
   obtain ⟨as,q⟩:=i1 _ r1
   obtain ⟨bs,q2⟩:=i2 _ r2
   exact ⟨_,.cons q q2⟩
theorem aMO(hu:X.A.units+64 < cLine):OpR X (compareOp .Eq) (fun x y H Q=>∃ d e,DatV X.K H x d/\DatV X.K H y e/\SeqAt.shaped d=true/\SeqAt.shaped e=true/\Q (.bl (PyData.eqv d e)) H):=by
 intro pins s σ H x y u v Q I rx ry h
 obtain ⟨d,e,hx,hy,sd,se,q⟩:=h
 obtain ⟨as,r1⟩:=hx.reads I rx
 obtain ⟨bs,r2⟩:=hy.reads I ry
 exact eq_dataH r1 r2 sd se hu ⟨.bl _,H,I,rfl,q⟩
theorem aMP(hu:X.A.units+64 < cLine):OpR X (compareOp .NotEq) (fun x y H Q=>∃ d e,DatV X.K H x d/\DatV X.K H y e/\SeqAt.shaped d=true/\SeqAt.shaped e=true/\Q (.bl (!PyData.eqv d e)) H):=by
 intro pins s σ H x y u v Q I rx ry h
 obtain ⟨d,e,hx,hy,sd,se,q⟩:=h
 obtain ⟨as,r1⟩:=hx.reads I rx
 obtain ⟨bs,r2⟩:=hy.reads I ry
 exact ne_dataH r1 r2 sd se hu ⟨.bl _,H,I,rfl,q⟩
end
theorem SqL.same{K:Frag}{H H':Hp}{a:Addr}{xs:List V}(e:aR H H')(h:SqL K H a xs):SqL K H' a xs:=aR.seq e h
theorem SqT.same{K:Frag}{H H':Hp}{a:Addr}{xs:List V}(e:aR H H')(h:SqT K H a xs):SqT K H' a xs:=by
 rcases h with (h|⟨o,h⟩)|h
 · exact .inl (.inl (e _ _ h))
 · exact .inl (.inr ⟨o, e _ _ h⟩)
 · exact .inr h
theorem DatV.same{K:Frag}{H H':Hp}(e:aR H H'){x:V}{d:PyData}(h:DatV K H x d):DatV K H' x d:=
 DatV.rec (motive_1:=fun x d _=>DatV K H' x d) (motive_2:=fun xs ds _=>DatVs K H' xs ds) .non .bl .int .str (fun h _ q=>.lst (h.same e) q) (fun h _ q=>.tup (h.same e) q) .nil (fun _ _ p q=>.cons p q) h
theorem DatVs.same{K:Frag}{H H':Hp}(e:aR H H'){xs:List V}{ds:List PyData}(h:DatVs K H xs ds):DatVs K H' xs ds:=
 DatVs.rec (motive_1:=fun x d _=>DatV K H' x d) (motive_2:=fun xs ds _=>DatVs K H' xs ds) .non .bl .int .str (fun h _ q=>.lst (h.same e) q) (fun h _ q=>.tup (h.same e) q) .nil (fun _ _ p q=>.cons p q) h
theorem aR.upd{H:Hp}{a:Addr}{o:HO}(h:H a=none):aR H (upd H a o):=fun b u e=>by rw[aP (c6 e h)];exact e
theorem DatVs.length{K:Frag}{H:Hp}:∀ {xs:List V} {ds:List PyData},DatVs K H xs ds->xs.length=ds.length
 | _,_,.nil=>rfl
 | _,_,.cons _ t=>by simp[DatVs.length t]
theorem DatVs.append{K:Frag}{H:Hp}:∀ {xs ys:List V} {ds es:List PyData},DatVs K H xs ds->DatVs K H ys es->DatVs K H (xs++ys) (ds++es)
 | _,_,_,_,.nil,h=>h
 | _,_,_,_,.cons a t,h=>.cons a (DatVs.append t h)
theorem DatVs.get{K:Frag}{H:Hp}:∀ {xs:List V} {ds:List PyData} {i:Nat} {x:V},DatVs K H xs ds->xs[i]? = some x->∃ d,ds[i]? = some d/\DatV K H x d
 | _,_,_,_,.nil,e=>by simp at e
 | _,_,0,_,.cons a t,e=>by simp at e;subst e;exact ⟨_,by simp,a⟩
 | _,_,i+1,x,.cons a t,e=>by
  obtain ⟨d,h1,h2⟩:=DatVs.get (i:=i) (x:=x) t (by simpa using e)
  exact ⟨d,by simpa using h1,h2⟩
theorem DatVs.get'{K:Frag}{H:Hp}:∀ {xs:List V} {ds:List PyData} {i:Nat} {d:PyData},DatVs K H xs ds->ds[i]? = some d->∃ x,xs[i]? = some x/\DatV K H x d
 | _,_,_,_,.nil,e=>by simp at e
 | _,_,0,_,.cons a t,e=>by simp at e;subst e;exact ⟨_,by simp,a⟩
 | _,_,i+1,x,.cons a t,e=>by
  obtain ⟨d,h1,h2⟩:=DatVs.get' (i:=i) (d:=x) t (by simpa using e)
  exact ⟨d,by simpa using h1,h2⟩
theorem DatVs.drop{K:Frag}{H:Hp}:∀ {xs:List V} {ds:List PyData} (n:Nat),DatVs K H xs ds->DatVs K H (xs.drop n) (ds.drop n)
 | _,_,0,h=>h
 | _,_,_+1,.nil=>.nil
 | _,_,n+1,.cons _ t=>DatVs.drop n t
theorem DatVs.take{K:Frag}{H:Hp}:∀ {xs:List V} {ds:List PyData} (n:Nat),DatVs K H xs ds->DatVs K H (xs.take n) (ds.take n)
 | _,_,0,_=>.nil
 | _,_,_+1,.nil=>.nil
 | _,_,n+1,.cons a t=>.cons a (DatVs.take n t)
def Ite(K:Frag)(a:Addr):It:=
 ⟨fun i H=>∃ xs x,SqL K H a xs/\xs[i]? = some x,fun i H x H'=>∃ p v,H p=none/\x=.ref p/\H'=upd H p (.tup [.int i,v])/\∀ xs,SqL K H a xs->xs[i]? = some v,fun i H=>∃ xs,SqL K H a xs/\xs.length<=i⟩
theorem aE6{P:Program}{w:World}{K:Frag}{es:List Expr}{k1}{tpos:Pos}(a e it:Addr)(hei:e≠it):Turn P w K (.Tuple es k1 tpos) (Ite K a) [e,it] e (fun i h=>(∃ old,IsEnum h e it i old)/\h.IsListIter it a i) where
 mem:=by simp
 obj:=fun i h st b hb=>by
  obtain ⟨⟨old,s1⟩,o,e2,c,d⟩:=st
  rcases List.mem_cons.mp hb with z|z
  ·subst z
   exact ⟨_,s1,fun v z=>by
    have z':Data.fields _=Data.cell v:=z
    cases z'⟩
  ·obtain rfl:b=it:=by simpa using z
   exact ⟨o,e2,fun v z=>by rw[d] at z;cases z⟩
 keep:=fun i h h' st k=>by
  obtain ⟨⟨old,s1⟩,s2⟩:=st
  exact ⟨⟨old,k e (by simp) _ s1⟩,s2.at fun o q=>k it (by simp) o q⟩
 item:=by
  intro X hP hw hK hc i pins s σ H E I hf st hg
  subst hP hw hK
  obtain ⟨⟨old,s1⟩,s2⟩:=st
  obtain ⟨xs,x,hq,hx⟩:=hg
  obtain ⟨its,rv,p,hz⟩:=I.list hq
  obtain ⟨u,hu,ru⟩:=rv.get hx
  obtain ⟨f0,f1,f2,f3,f4,f5⟩:=hf e (by simp)
  obtain ⟨g0,g1,g2,g3,g4,g5⟩:=hf it (by simp)
  refine wpAny_pyNext_enum_item s1 s2 p.isList (x:=u) (by simpa using hu) hei fun h' so si st hz' kp=>?_
  refine ⟨_,rfl,wpAny_letOwnedTupleGo_enum so fun h2 se sb=>?_⟩
  have ne1:s.heap.objs.size≠e:=Nat.ne_of_gt (Heap.lt_size s1)
  have hT2:h2.get? s.heap.objs.size=some {cls:=.type "tuple",data:=.seq #[.int i s.toks,u]}:=(sb.2 _ ne1).trans st
  have fT:H s.heap.objs.size=none:=I.hok.fresh (Nat.le_refl _)
  have kp2:∀ b o,b≠e->b≠it->s.heap.get? b=some o->h2.get? b=some o:=fun b o h1 h2' q=>(sb.2 b h1).trans (kp b o h1 h2' q)
  have hok2:HOk X.prog X.w H h2:=fun b uu q=>by
   refine (I.hok b uu q).stay (fun c v hc q'=>kp2 c v ?_ ?_ q') (fun _ q=>q) (fun _ _ q=>q) fun _ _ q=>q
   ·rcases hc with z|z
    ·rw[z];exact fun zz=>by rw[zz,f0] at q;cases q
    ·exact fun zz=>by rw[zz,f0] at z;cases z
   ·rcases hc with z|z
    ·rw[z];exact fun zz=>by rw[zz,g0] at q;cases q
    ·exact fun zz=>by rw[zz,g0] at z;cases z
  have hokT:HOk X.prog X.w (upd H s.heap.objs.size (.tup [.int i,x])) h2:=HOk.track hok2 fT ⟨by show 2<=sizeLine;decide,[.int i s.toks,u],.cons ⟨_,rfl⟩ (.cons ru .nil),⟨_,hT2,rfl,_,rfl⟩⟩
  have ltT:∀ b uu,H b=some uu->b≠s.heap.objs.size:=fun b uu q=>c6 q fT
  have I2:Inv X pins σ (upd H s.heap.objs.size (.tup [.int i,x])) {s with heap:=h2,gens:=s.gens,drawn:=s.drawn,toks:=s.toks+1}:=by
   refine I.step (ch:=[e,it]) (fun b hb=>?_) (fun b o _ _ hc q _=>kp2 b o (fun z=>hc (by simp[z])) (fun z=>hc (by simp[z])) q) (fun b o _ _ hc q _=>⟨o.slots,kp2 b o (fun z=>hc (by simp[z])) (fun z=>hc (by simp[z])) q⟩)
    (fun b o _ q n=>by rw[aP (Nat.ne_of_lt (Heap.lt_size q))];exact n) (fun b o hc q=>⟨o,kp2 b o (fun z=>hc (by simp[z])) (fun z=>hc (by simp[z])) q⟩) (fun b ys q=>by rw[aP (ltT b _ q)];exact q) (fun b o uu q=>by rw[aP (ltT b _ q)];exact q)
    (fun b ps q=>by rw[aP (ltT b _ q)];exact q) (fun m hm=>?_) hokT I.bare
   ·rcases List.mem_cons.mp hb with z|z
    ·subst z;exact ⟨f3,f1,f4,f5⟩
    ·obtain rfl:b=it:=by simpa using z
     exact ⟨g3,g1,g4,g5⟩
   ·obtain ⟨o,es',ep,ho,r⟩:=hm
    exact ⟨o,es',ep,kp2 _ o (Ne.symm f1) (Ne.symm g1) ho,r⟩
  refine ⟨.ref s.heap.objs.size,_,I2,rfl,⟨_,x,fT,rfl,rfl,fun ys hy=>by rw[I.list_inj hy hq];exact hx⟩,⟨⟨u,by simpa using se⟩,si.at fun o q=>(sb.2 it hei.symm).trans q⟩,fun b hb=>?_⟩
  rcases List.mem_cons.mp hb with z|z
  ·subst z;rw[aP (Ne.symm ne1)];exact f0
  ·obtain rfl:b=it:=by simpa using z
   obtain ⟨o,q,_⟩:=s2
   rw[aP (Nat.ne_of_lt (Heap.lt_size q))];exact g0
 done:=by
  intro X hP hw hK hc i pins s σ H E I hf st hg
  subst hP hw hK
  obtain ⟨⟨old,s1⟩,s2⟩:=st
  obtain ⟨xs,hq,hx⟩:=hg
  obtain ⟨its,rv,p,hz⟩:=I.list hq
  obtain ⟨g0,g1,g2,g3,g4,g5⟩:=hf it (by simp)
  have hl:=rv.length
  exact wpAny_pyNext_enum_end (I.ok.hd hc) s1 s2 p.isList (by simp;omega) fun h' eb=>⟨rfl,I.turned (t':=s.toks) (fun b o hb q=>eb b o hb q) g0 g1 g3 g4 g5⟩
 self:=fun _ _ _ _ _ st h=>wpAny_pyIter_enum st.1.choose_spec h
def aI7(K:Frag)(ta:TA):TI:=fun σ H R=>ta σ H fun vs H1=>∃ a,vs=[.ref a]/\(∃ xs,SqL K H1 a xs)/\R (Ite K a) H1
theorem aJ9{X:Cx}{es:List Expr}{k1}{tpos:Pos}{a:Expr}{ta:TA}{p pos:Pos}(hg:Gl X "enumerate")(hm:X.mg "enumerate"=none)(ha:PA X [a] ta)(hs:starEach [a] X.env=[(false,eval a X.env)]:=by rfl) :
  PI X (.Tuple es k1 tpos) (.Call (.Name "enumerate" p) [a] [] pos) (aI7 X.K ta):=by
 intro pins s σ H R I h
 refine Call_ (lL I hg hm PyProof.Rows.boot_enumerate (PyProof.Rows.callWith_type1 (thn (ha pos pins s σ H _ I h) fun us s1 zz0=>?_) hs rfl))
 obtain ⟨vs,H1,I1,r1,q1⟩:=zz0
 obtain ⟨j,e,⟨xs,hq⟩,q⟩:=q1
 subst e
 obtain ⟨u,rfl,ru⟩:=nI r1
 cases ru
 obtain ⟨its,rv,pl,hz⟩:=I1.list hq
 refine call_enumerate_list pl.isList fun h' se si hz' kp=>?_
 have I2:Inv X pins σ H1 {s1 with heap:=h'}:=I1.kept (t':=s1.toks) kp
 refine wpAny_pyIter_enum se ?_
 refine ⟨s1.heap.objs.size+1,[s1.heap.objs.size+1,s1.heap.objs.size],_,_,H1,rfl,I2,aE6 j _ _ (Nat.ne_of_gt (Nat.lt_succ_self _)),⟨⟨_,se⟩,si⟩,fun b hb=>?_,q⟩
 rcases List.mem_cons.mp hb with z|z
 ·subst z
  exact I1.fpOk (Nat.le_succ _) (I1.hok.fresh (Nat.le_succ _))
 ·obtain rfl:b=s1.heap.objs.size:=by simpa using z
  exact I1.fpOk (Nat.le_refl _) (I1.hok.fresh (Nat.le_refl _))
end L2
namespace SX
open PySem PySem.W
section
variable{prog:Program}{w:World}{A:Around}{E:Value->Shared->Prop}{h:Heap}{g:Array GenState}{d:Drawn}{t:Nat}{os:OsState}{K:Frag}
variable{nm q:Str}{C N:Addr}{bs bm bmB:List Value}{hdct:Bool}{sn:List Str}{sub:List Value}{ab:Bool}{col:Option Bool}{dd:Option Addr}{k0 k1 k2 k3 k5:Option Value}{B newId initId:String}
structure BmOk(B:String)(bm:List Value):Prop where
 hasB:bm.contains (.type B)=true
 hasBase:bm.contains (.type "BaseException")=true
 noAttr:bm.contains (.type "AttributeError")=false
 noName:bm.contains (.type "NameError")=false
theorem aDR(F:ExcBaseFacts B newId initId bmB)(T:BmOk B bm){M:Model}{rest:List Value}{Q:Unit->Shared->Prop}(hC:h.get? C=some (excClassObj nm q C N bs bm hdct sn sub ab col dd k0 k1 k2 k3 k5 newId))
  (hq:Q () ⟨h,g,d,t,os⟩):wpAny M A (checkBuiltinCall newId ⟨.ref C::rest,[]⟩) Q E ⟨h,g,d,t,os⟩:=by
 have hcont:(Value.ref C::bm).contains (.type B)=true:=by rw[List.contains_cons,T.hasB,Bool.or_true]
 have hstar:=F.noStar
 simp only[checkBuiltinCall,F.newKind,F.newSplit,F.newRow]
 repeat (first|refine wpAny_loadPart_at hC ?_|(refine wpAny_isSubtype_exc hC ?_;rw[hcont])|refine wpAny_staticBase_exc hC ?_|refine wpAny_madeBy_exc hC ?_|simp only[bne_self_eq_false,Bool.false_eq_true,if_false]|wp_step)
 exact hq
theorem aG8(F:ExcBaseFacts B newId initId bmB)(T:BmOk B bm){R:Result->Shared->Prop}{rest:List Value}(hC:h.get? C=some (excClassObj nm q C N bs bm hdct sn sub ab col dd k0 k1 k2 k3 k5 newId))
  (hq:R (.ok (.ret (.ref (h.objs.size+1)))) ⟨(h.push {cls:=.type "tuple",data:=.seq rest.toArray}).push
   {cls:=.ref C,data:=.fields #[.ref h.objs.size,.none,.none,.none,.bool false,.none]},g,d,t,os⟩) (hrest:rest.length<=sizeLine) :
  codeAny (model prog w) A (.builtin newId ⟨.ref C::rest,[]⟩) R ⟨h,g,d,t,os⟩:=by
 have hends:=F.ends
 have hcB:(Value.ref C::bm).contains (.type B)=true:=by rw[List.contains_cons,T.hasB,Bool.or_true]
 have hcA:(Value.ref C::bm).contains (.type "AttributeError")=false:=by rw[List.contains_cons,T.noAttr];rfl
 have hcN:(Value.ref C::bm).contains (.type "NameError")=false:=by rw[List.contains_cons,T.noName];rfl
 refine codeAny_builtinAt F.entry ?_
 unfold Builtin.«BaseException.__new__»
 refine wpAt_bind ?_
 show wpAt _ _ _ (stack >>= _) _ _ _
 refine wpAt_bind (wpAt_stack fun p below=>wpAt_of_wpAny ?_)
 wp_walk
 refine wpAt_of_wpAny ?_
 rw[F.owner]
 repeat (first|with_reducible refine wpAny_madeHere_exc F.canon hC ?_|with_reducible refine wpAny_loadPart_at hC ?_|(with_reducible refine wpAny_isSubtype_exc hC ?_;first|rw[hcB]|rw[hcA]|rw[hcN])|wp_step)
 show R _ _
 rw[Heap.size_push]
 exact hq
theorem zK(F:ExcBaseFacts B newId initId bmB)(T:BmOk B bm)(X:K.In h){rest:List Value}{fI:Addr}{Q:Fin->Shared->Prop}
  (hC:h.get? C=some (excClassObj nm q C N bs bm hdct sn sub ab col dd k0 k1 k2 k3 k5 newId)) (hi:findIn K (.ref C) "__init__"=some (some (.ref fI))) (hf:typeIn K (.ref fI)=some (.type "function"))
  (hq:∀ h' e,Heap.MadeExcOf h h' e (.ref C) rest->h.objs.size<=e->
   wpAny (model prog w) A (call (.ref fI) (.ref e::rest)) (fun r s'=>r=.none/\Q (.done (.ret (.ref e))) s') E ⟨h',g,d,t,os⟩) (hrest:rest.length<=sizeLine) :
  wpAny (model prog w) A (Builtin.«type.__call__» ⟨.ref C::rest,[]⟩) Q E ⟨h,g,d,t,os⟩:=by
 repeat (first|with_reducible refine wpAny_loadPart_at hC ?_|with_reducible refine wpAny_madeBy_exc hC ?_|wp_step)
 refine codeAny_call_builtin_code (Code.quiet_builtin _ F.quiet) (aDR F T hC ?_)
 refine aG8 F T hC ?_ hrest
 show wpAny _ _ _ _ _ _
 have kp:∀ b o,h.get? b=some o->((h.push {cls:=.type "tuple",data:=.seq rest.toArray}).push {cls:=.ref C,data:=.fields #[.ref h.objs.size,.none,.none,.none,.bool false,.none]}).get? b=some o:=fun b o e=>Heap.get?_push_of_some _ (Heap.get?_push_of_some _ e)
 have hC₁:=kp _ _ hC
 have X₁:=X.keeps kp
 have hget:((h.push {cls:=.type "tuple",data:=.seq rest.toArray}).push
   {cls:=.ref C,data:=.fields #[.ref h.objs.size,.none,.none,.none,.bool false,.none]}).get? (h.objs.size+1)=some
   {cls:=.ref C,data:=.fields #[.ref h.objs.size,.none,.none,.none,.bool false,.none]}:=by heap_get
 have hcC:(Value.ref C::bm).contains (.ref C)=true:=by simp
 unfold isInstance
 repeat (first|with_reducible refine wpAny_loadPart_at hget ?_|(with_reducible refine wpAny_isSubtype_exc hC₁ ?_;rw[hcC])|wp_step)
 show wpAny _ _ (typeLookup (.ref C) _) _ _ _
 refine (looks_findIn (M:=model prog w) X₁ hi).at ?_
 refine wpAny_holding (wpAny_bind ?_)
 refine (bind_fn (M:=model prog w) X₁ _ hf).at ?_
 refine wpAny_bind (wpAny_mono (hq _ (h.objs.size+1) ⟨kp,Heap.get?_none_of_le (Nat.le_succ _),h.objs.size,hget,Heap.get?_none_of_le (Nat.le_refl _),?_⟩ (Nat.le_succ _)) (fun r s' hr=>?_) fun _ _ x=>x)
 ·exact Heap.get?_push_of_some _ (Heap.get?_push_at rfl rfl)
 ·obtain ⟨rfl,hQ⟩:=hr
  wp_walk
  exact hQ
theorem aG9(F:ExcBaseFacts B newId initId bmB)(T:BmOk B bm)(X:K.In h){rest:List Value}{fI:Addr}{Q:Value->Shared->Prop}
  (hC:h.get? C=some (excClassObj nm q C N bs bm hdct sn sub ab col dd k0 k1 k2 k3 k5 newId)) (hi:findIn K (.ref C) "__init__"=some (some (.ref fI))) (hf:typeIn K (.ref fI)=some (.type "function"))
  (hq:∀ h' e,Heap.MadeExcOf h h' e (.ref C) rest->h.objs.size<=e->
   wpAny (model prog w) (A.under (.builtin "type.__call__" ⟨.ref C::rest,[]⟩)) (call (.ref fI) (.ref e::rest)) (fun r s'=>r=.none/\Q (.ref e) s') E ⟨h',g,d,t,os⟩) (hrest:rest.length<=sizeLine) :
  wpAny (model prog w) A (call (.ref C) rest) Q E ⟨h,g,d,t,os⟩:=by
 have f1:=tc_lookup
 have f2:=tc_bind (.ref C)
 have hT:(⟨h,g,d,t,os⟩:Shared).TypeIs (.ref C) "type":=⟨_,hC,rfl⟩
 refine wpAny_call (codeAny_of_tree ?_)
 show wpAny _ _ (callAny (.ref C) _) _ _ _
 repeat (any_goals (first|assumption|with_reducible refine wpAny_loadPart_at hC ?_|wp_step))
 refine ⟨rfl,?_⟩
 refine codeAny_call_builtin_at (Code.quiet_builtin _ (by decide +kernel)) entry_typeCall (wpAny_check_type_call_sub hC (zK F T X hC hi hf (fun h' e hm hle=>?_) hrest))
 exact hq h' e hm hle
theorem uD{M:Model}{env:Env}{s:Shared}{x:Sem Value}{Q:Flow->Shared->Prop}(T:BmOk B bm)(hh:A.handled=none)
  (hx:wpAny M A x (fun v s₁=>∃ e od vs,v=.ref e/\s₁.heap.get? C=some (excClassObj nm q C N bs bm hdct sn sub ab col dd k0 k1 k2 k3 k5 newId) /\
   s₁.heap.get? e=some {cls:=.ref C,dict:=od,data:=.fields vs}/\vs[1]? = some .none/\E (.ref e) s₁) E s) :
  wpAny M A (raiseStmt env (some x) none) Q E s:=by
 have hcB:(Value.ref C::bm).contains (.type "BaseException")=true:=by rw[List.contains_cons,T.hasBase,Bool.or_true]
 unfold raiseStmt
 refine wpAny_bind (wpAny_mono hx (fun v s₁ h₁=>?_) fun _ _ x=>x)
 obtain ⟨e,od,vs,rfl,hC,he,h1,hE⟩:=h₁
 obtain ⟨hp,g,d,tk,os⟩:=s₁
 repeat (first|with_reducible refine wpAny_loadPart_at he ?_|with_reducible refine wpAny_loadPart_at hC ?_|(with_reducible refine wpAny_isSubtype_exc hC ?_;rw[hcB])|(with_reducible refine wpAny_field he rfl h1 ?_)|wp_step)
 exact wpAny_raiseNew_none hh hE
end
end SX
namespace SX
open PySem PySem.W PySem.Builtin PySem.Builtin.ObjectAttr
abbrev i8:List Value:=[.type "ValueError",.type "Exception",.type "BaseException",.type "object"]
structure ExcC(K:Frag)(W C:Addr):Prop where
 lk:∃ nm q N bs sn sub ab col dd k0 k1 k2 k3 k5,K.lookup C=some (excClassObj nm q C N bs (.ref W::i8) true sn sub ab col dd k0 k1 k2 k3 k5 "ValueError.__new__")
 sa:findIn K (.ref C) "__setattr__"=some (some (.builtin "object.__setattr__"))
 ga:findIn K (.ref C) "__getattribute__"=some (some (.builtin "BaseException.__getattribute__"))
 gh:findIn K (.ref C) "__getattr__"=some none
 cl:findIn K (.ref C) "__class__"=some (some (.builtin "object.__class__"))
 clg:specialIn K (.builtin "object.__class__") "__get__"=some (some (.builtin "getset_descriptor.__get__"))
 clt:takesIn K (.builtin "object.__class__")=some true
 kp:keepIn K (.ref C)=true
theorem aHA(W:Addr):BmOk "ValueError" (.ref W::i8):=⟨by simp[i8],by simp[i8],by simp[i8],by simp[i8]⟩
theorem passes(self:Value)(C W:Addr):refuseLoop self "__setattr__" (.ref C::.ref W::i8)=pure ():=by
 rw[refuseLoop_ref,refuseLoop_ref]
 exact PySem.F.store_ValueError.passes self
theorem ExcC.cls{K:Frag}{W C:Addr}(c:ExcC K W C):∃ cd:ClassData,clsIn K C=some cd/\cd.hasDict=true/\cd.mro=.ref C::.ref W::i8:=by
 obtain ⟨nm,q,N,bs,sn,sub,ab,col,dd,k0,k1,k2,k3,k5,e⟩:=c.lk
 exact ⟨_,by unfold clsIn;rw[e],rfl,rfl⟩
theorem ExcC.mro{K:Frag}{W C:Addr}(c:ExcC K W C)(b:Value):mroIn K C b=some ((Value.ref C::.ref W::i8).contains b):=by
 obtain ⟨cd,h1,_,h3⟩:=c.cls
 unfold mroIn
 rw[h1,Option.bind_some,h3]
 rfl
section
variable{prog:Program}{w:World}{A:Around}{E:Value->Shared->Prop}{s:Shared}{K:Frag}{W C x:Addr}{name:Str}{v:Value}{vs:Array Value}
theorem aB8{od:Option Addr}{o:Option Obj}{tk:Tok}{R:Result->Shared->Prop}(X:K.In s.heap)(c:ExcC K W C)(na:findIn K (.ref C) name=some none)(I:InstAt s.heap x ⟨.ref C,od,.fields vs,#[]⟩ C o)
  (h:wpAny (model prog w) A.in1 (storeInOwnDict (.ref x) (.ref C) (.str name tk) name v false)
   (fun fin s'=>match fin with | .done f=>R (.ok f) s' | .again c'=>c'.quiet=true/\codeAny (model prog w) A c' R s') (fun e s'=>R (.error e) s') s) :
  codeAny (model prog w) A (.call (.builtin "object.__setattr__") ⟨[.ref x,.str name tk,v],[]⟩) R s:=by
 have SF:=PySem.F.store_object
 obtain ⟨cd,hc,hdct,hmro⟩:=c.cls
 have sub:Looks (model prog w) s.heap (isInstance (.ref x) (.type "object")) true:=I.type.andThen (looks_mroIn X (by rw[c.mro];simp[i8]))
 refine codeAny_call_builtin SF.slot.plain SF.entry (@check_slot (model prog w) _ _ s "object.__setattr__" "object" "__setattr__" (.ref x) [.str name tk,v] [] _ SF.kind SF.split sub (SF.args (.ref x) (.str name tk) v) ?_)
 have hm:Looks (model prog w) s.heap (mroOf (.ref C)) cd.mro:=(looks_clsIn X hc).andThen .now
 rw[osa_eq,refuse_eq]
 refine wpAny_bind (wpAny_bind (I.type.here (wpAny_bind (hm.here ?_))))
 rw[hmro,passes]
 exact wpAny_pure (wpAny_bind (I.type.here (wpAny_bind ((looks_findIn X na).here (wpAny_bind (wpAny_pure h))))))
theorem aE7{Q:Unit->Shared->Prop}(X:K.In s.heap)(c:ExcC K W C)(na:findIn K (.ref C) name=some none)(hx:s.heap.get? x=some ⟨.ref C,none,.fields vs,#[]⟩)
  (h:∀ h' tk',h'.get? x=some ⟨.ref C,some s.heap.objs.size,.fields vs,#[]⟩->h'.Ns1 s.heap.objs.size (fun y=>if y=name then some v else none)->(∀ b o,b≠x->s.heap.get? b=some o->h'.get? b=some o)->Q () {s with heap:=h',toks:=tk'}) :
  wpAny (model prog w) A (setAttr (.ref x) name v) Q E s:=by
 have I:InstAt s.heap x ⟨.ref C,none,.fields vs,#[]⟩ C none:=⟨hx,rfl,rfl,trivial⟩
 refine set_plain X I c.sa (aB8 (s:={s with toks:=s.toks+1}) X c na I ?_)
 obtain ⟨cd,hc,hdct,hmro⟩:=c.cls
 obtain ⟨hp,g,d,t,os⟩:=s
 have hx:hp.get? x=some ⟨.ref C,none,.fields vs,#[]⟩:=hx
 unfold storeInOwnDict
 refine wpAny_bind (wpAny_pure ?_)
 show wpAny _ _ (ownDictForStores (.ref x) >>= _) _ _ _
 refine wpAny_bind ?_
 show wpAny _ _ (instanceDict x true) _ _ _
 unfold instanceDict
 refine wpAny_bind (wpAny_loadPart hx (wpAny_bind ((looks_clsIn (M:=model prog w) X hc).at ?_)))
 rw[hdct]
 have hx₁:(hp.push {cls:=.type "dict",data:=.dict #[]}).get? x=some ⟨.ref C,none,.fields vs,#[]⟩:=Heap.get?_push_of_some _ hx
 have hxs:x≠hp.objs.size:=Nat.ne_of_lt (Heap.lt_size hx)
 refine wpAny_bind (wpAny_alloc' ?_)
 refine wpAny_bind (wpAny_update' hx₁ ?_)
 refine wpAny_pure ?_
 have hgd:((hp.push {cls:=.type "dict",data:=.dict #[]}).update x fun o=>{cls:=o.cls,dict:=some hp.objs.size,data:=o.data,slots:=o.slots}).get? hp.objs.size
   = some {cls:=.type "dict",data:=.dict #[]}:=
  (Heap.get?_update_ne _ _ _ _ hxs.symm).trans (Heap.get?_push_at rfl rfl)
 have hnd:((hp.push {cls:=.type "dict",data:=.dict #[]}).update x fun o=>{cls:=o.cls,dict:=some hp.objs.size,data:=o.data,slots:=o.slots}).Ns hp.objs.size (fun _=>none):=
  ⟨_,#[],_,hgd,rfl,fun e he=>absurd he (by simp),fun _=>rfl⟩
 show wpAny _ _ (storeInDict hp.objs.size (.str name t) name v) _ _ _
 unfold storeInDict newKeyGuard
 refine wpAny_bind (wpAny_pure (wpAny_bind (wpAny_nsSet1 (Heap.Ns1.of_empty hnd) fun h' hn' hs=>?_)))
 obtain ⟨oD,esD,epD,hoD,hdD,hcD⟩:=hn'.count (Within.cons name v Within.nil)
 refine wpAny_bind (wpAny_lookBehind hoD (by rw[hdD];exact pastItsLine_dict (Nat.le_trans hcD (by rw[List.length_cons,List.length_nil,sizeLine_eq];omega))) ?_)
 refine wpAny_pure (h h' _ ?_ hn' fun b o hbx hb=>?_)
 ·exact (hs.2 x hxs).trans (Heap.get?_update_self _ hx₁ rfl)
 ·exact (hs.2 b (Nat.ne_of_lt (Heap.lt_size hb))).trans ((Heap.get?_update_ne _ _ _ _ hbx).trans (Heap.get?_push_of_some _ hb))
theorem aHB{Q:Unit->Shared->Prop}{dx:Addr}{mA:Str->Option Value}{ns:List Str}(X:K.In s.heap)(c:ExcC K W C)(na:findIn K (.ref C) name=some none)(hx:s.heap.get? x=some ⟨.ref C,some dx,.fields vs,#[]⟩)
  (hne:dx≠x) (hns:s.heap.Ns1 dx mA) (hw:Within mA ns) (hsz:ns.length<=sizeLine)
  (h:∀ h' tk',h'.Ns1 dx (fun y=>if y=name then some v else mA y)->Heap.SameBut dx s.heap h'->Q () {s with heap:=h',toks:=tk'}) :
  wpAny (model prog w) A (setAttr (.ref x) name v) Q E s:=by
 obtain ⟨od,hod,_⟩:=L2.p9 hns
 have I:InstAt s.heap x ⟨.ref C,some dx,.fields vs,#[]⟩ C (some od):=⟨hx,rfl,rfl,hod⟩
 refine set_plain X I c.sa (aB8 (s:={s with toks:=s.toks+1}) X c na I ?_)
 obtain ⟨cd,hc,hdct,hmro⟩:=c.cls
 obtain ⟨hp,g,d,t,os⟩:=s
 have hx:hp.get? x=some ⟨.ref C,some dx,.fields vs,#[]⟩:=hx
 unfold storeInOwnDict
 refine wpAny_bind (wpAny_pure ?_)
 show wpAny _ _ (ownDictForStores (.ref x) >>= _) _ _ _
 refine wpAny_bind ?_
 show wpAny _ _ (instanceDict x true) _ _ _
 unfold instanceDict
 refine wpAny_bind (wpAny_loadPart hx (wpAny_bind ((looks_clsIn (M:=model prog w) X hc).at ?_)))
 rw[hdct]
 refine wpAny_pure ?_
 show wpAny _ _ (storeInDict dx (.str name t) name v) _ _ _
 unfold storeInDict newKeyGuard
 refine wpAny_bind (wpAny_pure (wpAny_bind (wpAny_nsSet1 hns fun h' hn' hs=>?_)))
 obtain ⟨oD,esD,epD,hoD,hdD,hcD⟩:=hn'.count (Within.cons name v hw)
 refine wpAny_bind (wpAny_lookBehind hoD (by rw[hdD];exact pastItsLine_dict (Nat.le_trans hcD (by rw[List.length_cons];omega))) ?_)
 exact wpAny_pure (h h' _ hn' hs)
theorem aE8{od:Option Addr}{o:Option Obj}{Q:Option Value->Shared->Prop}(X:K.In s.heap)(c:ExcC K W C)(I:InstAt s.heap x ⟨.ref C,od,.fields vs,#[]⟩ C o)(h:Q (some (.ref C)) {s with toks:=s.toks+1}) :
  wpAny (model prog w) A (getAttr? (.ref x) "__class__") Q E s:=by
 obtain ⟨hp,g,d,t,os⟩:=s
 obtain ⟨cd,hcd,hdct,hmro⟩:=c.cls
 have L0:=I.type (M:=model prog w)
 have L1:=looks_findIn (M:=model prog w) X c.ga
 have L2:=looks_findIn (M:=model prog w) X c.gh
 have sub:Looks (model prog w) hp (isInstance (.ref x) (.type "BaseException")) true:=L0.andThen (looks_mroIn X (by rw[c.mro];simp[i8]))
 have hf:findObj K C o "__class__"=some (.bind (.builtin "getset_descriptor.__get__") (.builtin "object.__class__")):=by
  unfold findObj
  rw[hcd,Option.bind_some,c.cl,Option.bind_some]
  simp only[c.clg,c.clt,Option.bind_some]
 have L3:=looks_find (M:=model prog w) X I hf
 unfold getAttr?
 refine wpAny_bind (wpAny_mkText ?_)
 unfold getAttrBy?
 refine wpAny_bind (wpAny_attempt ?_)
 unfold getAttrBy
 refine wpAny_holding (wpAny_bind (L0.at (wpAny_bind (L1.at ?_))))
 show wpAny _ _ (getAttrByItsOwn _ _ _ _ _ _) _ _ _
 unfold getAttrByItsOwn
 refine wpAny_bind ?_
 show wpAny _ _ (typeLookup (.ref C) "__getattr__") _ _ _
 refine L2.at (wpAny_bind (wpAny_attempt (wpAny_holding ?_)))
 unfold callGetattribute
 rw[show (false && onTheHeap (Value.builtin "BaseException.__getattribute__"))=false from rfl,if_neg Bool.false_ne_true]
 unfold boundAndCalled
 rw[PySem.F.excAttr_ValueError.ga.bind]
 refine wpAny_bind (wpAny_pure ?_)
 have hk:builtinKind "BaseException.__getattribute__"=some .slot:=by decide +kernel
 have hsplit:splitId "BaseException.__getattribute__"=some ("BaseException","__getattribute__"):=by decide +kernel
 refine wpAny_call (codeAny_call_builtin PySem.F.excAttr_ValueError.ga.plain PySem.F.entry_bexc_ga (@check_slot (model prog w) _ _ _ "BaseException.__getattribute__" "BaseException" "__getattribute__" (.ref x) [.str "__class__" t] [] _ hk hsplit sub (PySem.F.args_bexc_ga (.ref x) (.str "__class__" t)) ?_))
 refine wpAny_bind (wpAny_pure (wpAny_bind (wpAny_pure ?_)))
 refine wpAny_bind (L0.at (wpAny_bind (L3.at ?_)))
 show wpAny _ _ (holding [.builtin "object.__class__"] (call (.builtin "getset_descriptor.__get__") [.builtin "object.__class__",.ref x,.ref C]) >>= ret) _ _ _
 refine wpAny_bind (wpAny_holding (wpAny_call (class_get (s:=⟨hp,g,d,t+1,os⟩) X I (by rw[c.mro];simp[i8]) ?_)))
 refine wpAny_pure ?_
 show wpAny _ _ (handedOut (.ref C)) _ _ _
 exact wpAny_pure (wpAny_pure h)
theorem aHC{od:Option Addr}{o:Option Obj}(c:ExcC K W C):KitX K (.ref x) (.ref C) (fun h=>InstAt h x ⟨.ref C,od,.fields vs,#[]⟩ C o) where
 ty:=fun _ _ _ I=>I.type
 it:=fun _ _ X _=>by
  obtain ⟨nm,q,N,bs,sn,sub,ab,col,dd,k0,k1,k2,k3,k5,e⟩:=c.lk
  intro A' Q' E' s' k q
  unfold isType loadHead
  exact wpAny_bind (wpAny_loadPart (k _ _ (X _ _ e)) (wpAny_pure q))
 ne:=fun h tp dd its n sl X htp=>by
  obtain ⟨nm,q,N,bs,sn,sub,ab,col,dd,k0,k1,k2,k3,k5,e⟩:=c.lk
  refine Bool.eq_false_iff.mpr fun q=>?_
  have e':C=tp:=Value.ref.inj (beq_iff_eq.mp q)
  subst e'
  have z:=(X _ _ e).symm.trans htp
  have z':Value.type "type"=Value.type "tuple":=congrArg Obj.cls (Option.some.inj z)
  exact absurd (Value.type.inj z') (by decide)
 ca:=fun X I k=>aE8 X c I k
theorem uE{od:Option Addr}{o:Option Obj}{cv:Value}{b:Bool}{Q:Value->Shared->Prop}(X:K.In s.heap)(c:ExcC K W C)(I:InstAt s.heap x ⟨.ref C,od,.fields vs,#[]⟩ C o)(e:kitOne K (.ref C) cv=some b)(h:∀ tk,Q (.bool b) {s with toks:=tk}) :
 wpAny (model prog w) A (call (.builtin "isinstance") [.ref x,cv]) Q E s:=kia_one (aHC c) X I e (fun z=>nomatch z) h
end
end SX
namespace SX
open PySem PySem.W
def sZ(h:Heap)(vs:Array Value)(e:Addr)(T:Option Addr):Prop:=
 match T with
 | none=>vs[1]? = some .none
 | some t=>vs[1]? = some (.ref t)/\t≠e/\∃ oT ts x,h.get? t=some oT/\oT.data=.fields ts/\ts[3]? = some x
section
variable{M:Model}{A:Around}{E:Value->Shared->Prop}{s:Shared}
structure Noted(FL:List Addr)(e:Addr)(T:Option Addr)(C:Addr)(od:Option Addr)(h h':Heap)(T':Option Addr):Prop where
 keep:∀ b o,b∉FL->b≠e->(∀ t,T=some t->b≠t)->h.get? b=some o->h'.get? b=some o
 slot:∀ b o,b∈FL->h.get? b=some o->∃ sl,h'.get? b=some {o with slots:=sl}
 exc:∃ vs,h'.get? e=some ⟨.ref C,od,.fields vs,#[]⟩/\sZ h' vs e T'
 new:(∃ t,T'=some t/\h.objs.size<=t)\/(T'=T/\T≠none)
 there:∀ t o,T=some t->h.get? t=some o->∃ o',h'.get? t=some o'
theorem aHD{base:Heap}{env:Env}{outer:List Env}{L e C:Addr}{od:Option Addr}{vs:Array Value}{T:Option Addr}{Q:Unit->Shared->Prop}
  (hfr:A.frames=some (env::outer)) (hl:s.heap.FunFrames base (env::outer)) (hf:env.frame=some L) (he:s.heap.get? e=some ⟨.ref C,od,.fields vs,#[]⟩) (ht:sZ s.heap vs e T)
  (h:∀ h' T',T'≠none->Noted ((env::outer).filterMap (·.frame)) e T C od s.heap h' T'->Q () {s with heap:=h'}) :
  wpAny M A (noteFrame (.ref e) env) Q E s:=by
 have frF:∀ b∈(env::outer).filterMap (·.frame),∃ o,s.heap.get? b=some o/\∀ vs,o.data≠.fields vs:=fun b hb=>(hl.mem hb).2
 have hene:e∉(env::outer).filterMap (·.frame):=fun hm=>by
  obtain ⟨o,ho,hnf⟩:=frF e hm
  rw[he] at ho;injection ho with ho;subst ho;exact hnf vs rfl
 have h1s:1 < vs.size:=by
  unfold sZ at ht
  cases T with
  | none=>exact (Array.getElem?_eq_some_iff.mp ht).1
  | some t=>exact (Array.getElem?_eq_some_iff.mp ht.1).1
 have make:∀ (hp:Heap) (head:Value) (hadNext:Bool),hp.FunFrames base (env::outer)->hp.objs.size=s.heap.objs.size->hp.get? e=some ⟨.ref C,od,.fields vs,#[]⟩->
   (∀ b o,(∀ t,T=some t->b≠t)->s.heap.get? b=some o->hp.get? b=some o)->(∀ t o,T=some t->s.heap.get? t=some o->∃ o',hp.get? t=some o'/\t∉(env::outer).filterMap (·.frame)/\t≠e)->
   wpAny M A (do let a <-frameOf env;let pl <-entryPlaceOf L hadNext;let b <-EntryCells.newEntry head a .none (rawInt L) .none pl;setField (.ref e) 1 b) Q E {s with heap:=hp}:=by
  intro hp head hadNext hlp hsz hep kp tp
  refine wpAny_bind (wpAny_frameOf_fun (s:={s with heap:=hp}) hfr hlp hf fun h₁ hs₁=>?_)
  refine wpAny_bind (wpAny_entryPlaceOf fun pl hpl=>?_)
  unfold EntryCells.newEntry newFields
  refine wpAny_bind (wpAny_newObj_type ?_ (hpl.sizeOk5 _ _ _ _ _))
  have he₁:h₁.get? e=some ⟨.ref C,od,.fields vs,#[]⟩:=(hs₁.2.1 e hene).trans hep
  have he₂:=Heap.get?_push_of_some (h:=h₁) {cls:=.type "traceback",dict:=none,data:=.fields ([head,.ref L,.none,rawInt L,.none]++(if pl.isEmpty then List.replicate 6 Value.none else pl)).toArray} he₁
  refine wpAny_setField he₂ rfl h1s ?_
  have hTe:h₁.objs.size≠e:=Nat.ne_of_gt (Heap.lt_size he₁)
  have he₃:=Heap.get?_update_self (Obj.mapFields (·.setIfInBounds 1 (Value.ref h₁.objs.size))) he₂ rfl
  have hT₃:=(Heap.get?_update_other (h₁.push {cls:=.type "traceback",dict:=none,data:=.fields ([head,.ref L,.none,rawInt L,.none]++(if pl.isEmpty then List.replicate 6 Value.none else pl)).toArray})
   (Obj.mapFields (·.setIfInBounds 1 (Value.ref h₁.objs.size))) (Ne.symm hTe)).trans (Heap.get?_push_size h₁ rfl)
  have keep:∀ b o,b≠e->h₁.get? b=some o->
    ((h₁.push {cls:=.type "traceback",dict:=none,data:=.fields ([head,.ref L,.none,rawInt L,.none]++(if pl.isEmpty then List.replicate 6 Value.none else pl)).toArray}).update e (Obj.mapFields (·.setIfInBounds 1 (Value.ref h₁.objs.size)))).get? b=some o:=
   fun b o hbe hb=>by
    rw[Heap.get?_update_other _ _ (Ne.symm hbe)]
    exact Heap.get?_push_of_some _ hb
  refine h _ (some h₁.objs.size) (by simp) ⟨fun b o hb hbe hbt q=>?_,fun b o hb q=>?_,⟨vs.setIfInBounds 1 (.ref h₁.objs.size),?_,?_⟩,.inl ⟨_,rfl,by rw[hs₁.1,hsz];exact Nat.le_refl _⟩,fun t o e1 e2=>?_⟩
  ·exact keep b o hbe ((hs₁.2.1 b hb).trans (kp b o hbt q))
  ·have hbt:∀ t,T=some t->b≠t:=fun t e1 z=>by
    obtain ⟨o',q',z2,_⟩:=tp t o e1 (z▸q)
    exact z2 (z▸hb)
   obtain ⟨sl,q'⟩:=hs₁.2.2 b o (kp b o hbt q)
   exact ⟨sl,keep b _ (fun z=>hene (z▸hb)) q'⟩
  ·exact he₃
  ·refine ⟨by simp[h1s],hTe,_,_,rawInt L,hT₃,rfl,by first|(simp;done)|(rcases hpl with rfl|⟨_,_,_,_,_,_,_,rfl⟩<;>simp)⟩
  ·obtain ⟨o',q',z2,z3⟩:=tp t o e1 e2
   exact ⟨o',keep t o' z3 ((hs₁.2.1 t z2).trans q')⟩
 unfold noteFrame
 simp only[hf]
 cases T with
 | none=>
  refine wpAny_bind (wpAny_field he rfl ht ?_)
  rw[if_neg (by decide)]
  exact make s.heap .none _ hl rfl he (fun b o _ q=>q) (fun t o e1=>nomatch e1)
 | some t=>
  obtain ⟨ht1,hte,oT,ts,x,hT,hdT,h3⟩:=ht
  have tFL:t∉(env::outer).filterMap (·.frame):=fun hm=>by
   obtain ⟨o,ho,hnf⟩:=frF t hm
   rw[hT] at ho;injection ho with ho;subst ho;exact hnf ts hdT
  refine wpAny_bind (wpAny_field he rfl ht1 ?_)
  rw[if_pos (show (Value.ref t != Value.none)=true from by simp)]
  refine wpAny_bind (wpAny_field hT hdT h3 ?_)
  by_cases hx:(x == rawInt L)=true
  ·rw[if_pos hx]
   refine wpAny_pure (h s.heap (some t) (by simp) ⟨fun b o _ _ _ q=>q,fun b o _ q=>⟨o.slots,q⟩,⟨vs,he,ht1,hte,oT,ts,x,hT,hdT,h3⟩,.inr ⟨rfl,by simp⟩,fun t' o e1 q=>⟨o,q⟩⟩)
  ·rw[if_neg hx]
   refine wpAny_bind (wpAny_setField hT hdT (Array.getElem?_eq_some_iff.mp h3).1 ?_)
   have other:∀ b,b≠t->(s.heap.update t (Obj.mapFields (·.setIfInBounds 3 Value.none))).get? b=s.heap.get? b:=fun b hb=>Heap.get?_update_other _ _ (Ne.symm hb)
   have hT':=Heap.get?_update_self (Obj.mapFields (·.setIfInBounds 3 Value.none)) hT (Obj.isFreed_of_fields (Obj.data_mapFields hdT _))
   refine make (s.heap.update t (Obj.mapFields (·.setIfInBounds 3 Value.none))) _ _ (hl.of_keeps fun b o hb hnf=>⟨o,(other b fun q=>?_).trans hb,rfl⟩) (Heap.SameBut.update ..).1 ((other e (Ne.symm hte)).trans he) (fun b o hb q=>(other b (hb t rfl)).trans q) (fun t' o e1 q=>?_)
   ·rw[q,hT] at hb;injection hb with hb;subst hb;exact hnf ts hdT
   ·cases e1
    exact ⟨_,hT',tFL,hte⟩
theorem aDS{e C t:Addr}{od:Option Addr}{vs:Array Value}{fr:Option Addr}{Q:Unit->Shared->Prop}(he:s.heap.get? e=some ⟨.ref C,od,.fields vs,#[]⟩)(ht:sZ s.heap vs e (some t))
  (h:∀ h',Heap.SameBut t s.heap h'->sZ h' vs e (some t)->Q () {s with heap:=h'}):wpAny M A (setFlight (.ref e) fr) Q E s:=by
 obtain ⟨ht1,hte,oT,ts,x,hT,hdT,h3⟩:=ht
 unfold setFlight
 refine wpAny_bind (wpAny_field he rfl ht1 ?_)
 rw[if_pos (show (Value.ref t != Value.none)=true from by simp)]
 have hsz:=(Array.getElem?_eq_some_iff.mp h3).1
 refine wpAny_setField hT hdT hsz (h _ (Heap.SameBut.update ..) ⟨ht1,hte,_,_,_,Heap.get?_update_self _ hT (Obj.isFreed_of_fields (Obj.data_mapFields hdT _)),Obj.data_mapFields hdT _,Array.getElem?_setIfInBounds_self_of_lt hsz⟩)
end
end SX
namespace L2
open PySem PySem.Spec PyProof.Rows
def ExN(e C:Addr)(od:Option Addr):HO:=.ext fun h=>∃ vs,h.get? e=some ⟨.ref C,od,.fields vs,#[]⟩/\vs[1]? = some .none
def ExO(e C:Addr)(od:Option Addr):HO:=.ext fun h=>∃ vs,h.get? e=some ⟨.ref C,od,.fields vs,#[]⟩
section
variable{P:Program}{w:World}{H:Hp}{h:Heap}{e C:Addr}{od:Option Addr}
theorem aE9{vs:Array Value}(a:h.get? e=some ⟨.ref C,od,.fields vs,#[]⟩)(b:vs[1]? = some .none):cS P w H h e (ExN e C od):=
 ⟨⟨vs,a,b⟩,⟨_,a⟩,fun h1 h2 ⟨vs,a,b⟩ k=>⟨vs,k _ a,b⟩⟩
theorem aFA{vs:Array Value}(a:h.get? e=some ⟨.ref C,od,.fields vs,#[]⟩):cS P w H h e (ExO e C od):=
 ⟨⟨vs,a⟩,⟨_,a⟩,fun h1 h2 ⟨vs,a⟩ k=>⟨vs,k _ a⟩⟩
theorem zL(ok:HOk P w H h)(q:H e=some (ExN e C od)):∃ vs,h.get? e=some ⟨.ref C,od,.fields vs,#[]⟩/\vs[1]? = some .none:=(ok e _ q).1
theorem aFB(ok:HOk P w H h)(q:H e=some (ExO e C od)):∃ vs,h.get? e=some ⟨.ref C,od,.fields vs,#[]⟩:=(ok e _ q).1
end
structure FlyAt(X:Cx)(H:Hp)(h:Heap)(e C:Addr)(od:Option Addr)(traced:Bool):Prop where
 tr:H e=some (ExO e C od)
 tb:∃ vs T,h.get? e=some ⟨.ref C,od,.fields vs,#[]⟩/\SX.sZ h vs e T/\(∀ t,T=some t->H t=none/\X.s₀.heap.objs.size<=t/\∀ p∈X.pn,p.1≠t)/\(traced=true->T≠none)
def Fly(X:Cx)(E:XK)(ev:Value)(s':Shared):Prop:=∃ e C od σ H',ev=.ref e/\Inv X [] σ H' s'/\FlyAt X H' s'.heap e C od false/\E (.ref C) (some e) H'
abbrev Cx.fly(X:Cx)(E:XK):Cx:=X.wish (Fly X E)
def aDT(X:Cx):Prop:=X.stack=X.env::X.outer/\X.env.frame=some X.env.locals
section
variable{X:Cx}{σ:St}{H:Hp}{s:Shared}{e C:Addr}{od:Option Addr}{b:Bool}
theorem zM(I:Inv X [] σ H s){t:Addr}{oT:Obj}{ts:Array Value}(hT:s.heap.get? t=some oT)(hd:oT.data=.fields ts):t≠X.env.locals/\(∀ x c,X.env.cells.lookup x=some c->c≠t):=by
 refine ⟨fun z=>?_,fun x c q z=>?_⟩
 ·obtain ⟨m,⟨o,es,ep,ho,hd',_⟩,_⟩:=I.loc
  rw[<-z,hT] at ho;cases ho;rw[hd] at hd';cases hd'
 ·obtain ⟨v,o,ho,hd'⟩:=I.cell x c q
  rw[z,hT] at ho;cases ho;rw[hd] at hd';cases hd'
theorem zN{Q:Unit->Shared->Prop}{E':Value->Shared->Prop}(hO:aDT X)(I:Inv X [] σ H s)(f:FlyAt X H s.heap e C od b)(h:∀ s',Inv X [] σ H s'->FlyAt X H s'.heap e C od true->Q () s') :
  wpAny (model X.prog X.w) X.A (noteFrame (.ref e) X.env) Q E' s:=by
 obtain ⟨hst,hfm⟩:=hO
 obtain ⟨vs,T,he,ht,hT,_⟩:=f.tb
 have hfr:X.A.frames=some (X.env::X.outer):=by rw[<-hst];exact I.ok.frames
 have hl:s.heap.FunFrames X.base (X.env::X.outer):=by have:=I.stack;rw[hst] at this;exact this
 have hFL:(X.env::X.outer).filterMap (·.frame)=X.env.locals::X.fs:=by rw[List.filterMap_cons,hfm];rfl
 refine SX.aHD (T:=T) hfr hl hfm he ht fun h' T' hT' N=>?_
 rw[hFL] at N
 have trk:∀ c u,H c=some u->c∉X.env.locals::X.fs:=fun c u q z=>by
  have:=I.stkFree c (by unfold frs;rw[hst,hFL];exact z)
  rw[q] at this;cases this
 have nT:∀ c u,H c=some u->∀ t,T=some t->c≠t:=fun c u q t e1 z=>by
  have:=(hT t e1).1
  rw[<-z,q] at this;cases this
 have hok':HOk X.prog X.w H h':=fun c u q=>by
  by_cases hc:c=e
  ·subst hc
   rw[f.tr] at q;cases q
   obtain ⟨vs',q',_⟩:=N.exc
   exact aFA q'
  ·refine (I.hok c u q).stay (fun c' v hc' q'=>N.keep c' v ?_ ?_ ?_ q') (fun _ q=>q) (fun _ _ q=>q) fun _ _ q=>q
   ·rcases hc' with z|z
    ·rw[z];exact trk c u q
    ·exact trk c' _ z
   ·rcases hc' with z|z
    ·rw[z];exact hc
    ·intro zz;rw[zz,f.tr] at z;cases z
   ·rcases hc' with z|z
    ·rw[z];exact nT c u q
    ·exact nT c' _ z
 have I':Inv X [] σ H {s with heap:=h',gens:=s.gens,drawn:=s.drawn,toks:=s.toks}:=by
  refine I.step (ch:=T.toList) (fun c hc=>?_) (fun c o h1 h2 h3 q n=>?_) (fun c o h1 h2 h3 q n=>N.slot c o (List.mem_cons_of_mem _ h2) q) (fun _ _ _ _ n=>n) (fun c o h3 q=>?_) (fun _ _ q=>q) (fun _ _ _ q=>q) (fun _ _ q=>q) (fun m hm=>?_) hok' I.bare
  ·have e1:T=some c:=by cases T<;>simp at hc;rw[hc]
   obtain ⟨t1,t2,t3⟩:=hT c e1
   rw[e1] at ht
   obtain ⟨_,_,oT,ts,x,hTo,hTd,_⟩:=ht
   obtain ⟨a1,a2⟩:=zM I hTo hTd
   exact ⟨.inr t2,a1,a2,fun p hp=>t3 p (by simpa using hp)⟩
  ·refine N.keep c o ?_ ?_ ?_ q
   ·intro z
    rcases List.mem_cons.mp z with z|z
    ·exact h1 z
    ·exact h2 z
   ·intro z;rw[z,f.tr] at n;cases n
   ·intro t e1 z;exact h3 (by rw[e1,z];simp)
  ·by_cases hc:c=e
   ·subst hc
    obtain ⟨vs',q',_⟩:=N.exc
    exact ⟨_,q'⟩
   ·by_cases hF:c∈X.env.locals::X.fs
    ·obtain ⟨sl,q'⟩:=N.slot c o hF q
     exact ⟨_,q'⟩
    ·exact ⟨o,N.keep c o hF hc (fun t e1 z=>h3 (by rw[e1,z];simp)) q⟩
  ·obtain ⟨o,es,ep,ho,r⟩:=hm
   obtain ⟨sl,q'⟩:=N.slot _ o List.mem_cons_self ho
   exact ⟨_,es,ep,q',r⟩
 refine h _ I' ⟨f.tr,?_⟩
 obtain ⟨vs',q',t'⟩:=N.exc
 refine ⟨vs',T',q',t',fun t e1=>?_,fun _=>hT'⟩
 rcases N.new with ⟨t2,e2,hle⟩|⟨e2,_⟩
 ·rw[e1] at e2;cases e2
  refine ⟨I.hok.fresh hle,Nat.le_trans I.sz hle,fun p hp z=>?_⟩
  have:=Heap.lt_size (I.pin p (List.mem_append_left _ hp)).1
  rw[z] at this
  exact absurd (Nat.lt_of_lt_of_le this hle) (Nat.lt_irrefl _)
 ·exact hT t (e2▸e1)
theorem aB9{Q:Unit->Shared->Prop}{E':Value->Shared->Prop}{fr:Option Addr}{A:Around}(I:Inv X [] σ H s)(f:FlyAt X H s.heap e C od true)(h:∀ s',Inv X [] σ H s'->FlyAt X H s'.heap e C od true->Q () s') :
  wpAny (model X.prog X.w) A (setFlight (.ref e) fr) Q E' s:=by
 obtain ⟨vs,T,he,ht,hT,hn⟩:=f.tb
 cases T with
 | none=>exact absurd rfl (hn rfl)
 | some t=>
  obtain ⟨t1,t2,t3⟩:=hT t rfl
  refine SX.aDS he ht fun h' sb ht'=>?_
  obtain ⟨_,hte,oT,ts,x,hTo,hTd,_⟩:=ht
  obtain ⟨a1,a2⟩:=zM I hTo hTd
  have I':Inv X [] σ H {s with heap:=h'}:=I.turned (t':=s.toks) (it:=t) (fun b o hb q=>(sb.2 b hb).trans q) t1 a1 (.inr t2) a2 fun p hp=>t3 p (by simpa using hp)
  exact h _ I' ⟨f.tr,vs,some t,(sb.2 e (Ne.symm hte)).trans he,ht',fun t' e1=>by cases e1;exact ⟨t1,t2,t3⟩,fun _=>by simp⟩
theorem aFC{Q:Value->Shared->Prop}{E':Value->Shared->Prop}{A:Around}(f:FlyAt X H s.heap e C od true)(h:∀ t,Q (.ref t) s):wpAny (model X.prog X.w) A (field (.ref e) 1) Q E' s:=by
 obtain ⟨vs,T,he,ht,hT,hn⟩:=f.tb
 cases T with
 | none=>exact absurd rfl (hn rfl)
 | some t=>exact wpAny_field he rfl ht.1 (h t)
theorem gN{E:XK}(hO:aDT X):PassesOwn (model X.prog X.w) X.A X.env (Fly X E):=by
 rintro ev s' ⟨e,C,od,σ,H,rfl,I,f,q⟩
 refine zN hO I f fun s2 I2 f2=>?_
 unfold cameBackBy
 refine wpAny_bind (aFC f2 fun t=>?_)
 rw[if_neg (by simp)]
 exact aB9 I2 f2 fun s3 I3 f3=>⟨e,C,od,σ,H,rfl,I3,⟨f3.tr,let ⟨vs,T,a,b,c,_⟩:=f3.tb;⟨vs,T,a,b,c,fun z=>nomatch z⟩⟩,q⟩
end
def CXe(P:Program)(w:World):CXT:=fun outer H s E ev s'=>∃ e C od H',ev=.ref e/\s'.os=s.os/\AllBare s'.gens/\Un (frs outer) [] H H' s.heap s'.heap/\HOk P w H' s'.heap/\H' e=some (ExO e C od) /\
 (∃ vs T,s'.heap.get? e=some ⟨.ref C,od,.fields vs,#[]⟩/\SX.sZ s'.heap vs e T/\∀ t,T=some t->H' t=none/\s.heap.objs.size<=t)/\E (.ref C) (some e) H'
section
variable{X:Cx}
theorem bW{E E':XK}(hE:∀ c e H,E c e H->E' c e H):jI (CXe X.prog X.w) (X.fly E') E:=by
 rintro pins σ H s ev s' I ⟨e,C,od,H',rfl,os,bare,un,hok,he,⟨vs,T,q1,q2,q3⟩,q⟩
 have I0:Inv X pins σ H s:=I.unwish
 have I1:Inv X [] σ H s:=I0.pins_of fun p hp=>absurd hp (by simp)
 have I2:Inv X [] σ H' s':=I1.call' os un hok bare (fun b hb=>absurd hb (by simp))
 refine ⟨e,C,od,σ,H',rfl,I2,⟨he,vs,T,q1,q2,fun t e1=>?_,fun z=>nomatch z⟩,hE _ _ _ q⟩
 obtain ⟨t1,t2⟩:=q3 t e1
 refine ⟨t1,Nat.le_trans I0.sz t2,fun p hp z=>?_⟩
 have:=Heap.lt_size (I0.pin p (List.mem_append_left _ hp)).1
 rw[z] at this
 exact absurd (Nat.lt_of_lt_of_le this t2) (Nat.lt_irrefl _)
theorem PSs.unfly{E:XK}{st:List Stmt}{t:TS}(h:PSs (X.fly E) st t)(hx:∀ e s',Fly X E e s'->X.xe e s'):PSs X st t:=fun pins s σ H D I hw=>
 wpAny_mono (h pins s σ H D (I.wish _) hw) (fun f s' q=>SP.unwish q) hx
end
theorem aFD{P:Program}{w:World}{K:Frag}{mg:Str->Option Value}{base:Heap}{N:List Str}{qual:Str}{scope:Scope}{f:Addr}{cd:Value}{A:Around}{outer:List Env}{s:Shared}{H:Hp}{E:XK}{ev:Value}{s':Shared}
  (h:Fly (i7 (CXe P w) P w K mg base N qual scope f cd A outer s H E) E ev s'):(i7 (CXe P w) P w K mg base N qual scope f cd A outer s H E).xe ev s':=by
 obtain ⟨e,C,od,σ,H',rfl,I,fl,q⟩:=h
 show wpAny (model P w) _ (leaving _ (.ref e)) _ _ s'
 unfold leaving
 have hO:aDT (i7 (CXe P w) P w K mg base N qual scope f cd A outer s H E):=⟨rfl,rfl⟩
 refine wpAny_bind (zN hO I fl fun s2 I2 f2=>aB9 I2 f2 fun s3 I3 f3=>?_)
 obtain ⟨vs,T,a,b,c,_⟩:=f3.tb
 exact ⟨e,C,od,H',rfl,I3.os,I3.bare,I3.base,I3.hok,f3.tr,⟨vs,T,a,b,fun t e1=>⟨(c t e1).1,(c t e1).2.1⟩⟩,q⟩
section
variable{P:Program}{w:World}{K:Frag}{mg:Str->Option Value}{base:Heap}
theorem Fun.okX{x qual:Str}{st:Stmt}{f:Addr}{fd:FuncData}{N ps:List Str}{k:Nat}{sp:Sp}(F:Fun K x qual st f fd)(S:FnScope N ps (aM st))(len:∀ vs H Q E,sp vs H Q E->vs.length=ps.length)
  (hbody:∀ (cdv:Value) (A:Around) (outer:List Env) (s:Shared) (H:Hp) (vs:List V) (Q:VK) (E:XK),Room k (A.deeper (envOfC qual (aM st) s.heap.objs.size f cdv))->sp vs H Q E->
   ∃ t,PSs ((i7 (CXe P w) P w K mg base N qual (aM st) f cdv A outer s H E).fly E) (cC st) t/\t {nx:=fun _ H'=>Q .non H',rt:=Q} (start N vs) H):FnOk P w K mg base (CXe P w) (k+1) f fd ps sp:=by
 obtain ⟨oc,od,kV,doc,pm,an,cdv,ct,osl,rfl,lk,hcd⟩:=F.ex
 refine aI4 lk hcd S len fun A outer s H vs Q E hr hsp=>?_
 obtain ⟨t,h,q⟩:=hbody cdv A outer s H vs Q E hr hsp
 exact ⟨t,h.unfly fun _ _ z=>aFD z,q⟩
end
end L2
namespace L2
open PySem PySem.Spec PyProof.Rows
theorem Inv.xdw{X:Cx}{pins:List (Addr×Obj)}{σ:St}{H:Hp}{s:Shared}{h':Heap}{d:Addr}{fs fs':List (Str×V)}{t':Nat}(I:Inv X pins σ H s)(hd:H d=some (.xd fs))(sb:Heap.SameBut d s.heap h')
  (new:cS X.prog X.w (upd H d (.xd fs')) h' d (.xd fs')):Inv X pins σ (upd H d (.xd fs')) {s with heap:=h',toks:=t'}:=by
 have nd:∀ b (u:Obj),H b=none->b≠d:=fun b u e z=>by rw[z,hd] at e;cases e
 refine I.un ⟨fun b o q n _ _=>(sb.2 b (nd b o n)).trans q,fun b o q n hb=>?_,fun b o q n _=>by rw[aP (nd b o n)];exact n,fun b o q _=>?_,fun b xs q=>?_,fun b o u q=>?_,fun b ps q=>?_⟩ fun b u q=>?_
 ·exact fun _=>⟨o.slots,(sb.2 b (nd b o n)).trans q⟩
 ·by_cases z:b=d
  ·obtain ⟨o',e⟩:=(show ∃ o',h'.get? d=some o' from let ⟨mA,⟨o,_,_,e,_⟩,_⟩:=new;⟨o,e⟩)
   exact ⟨o',z▸e⟩
  ·exact ⟨o,(sb.2 b z).trans q⟩
 ·rw[aP (fun z=>by rw[z,hd] at q;cases q)];exact q
 ·rw[aP (fun z=>by rw[z,hd] at q;cases q)];exact q
 ·rw[aP (fun z=>by rw[z,hd] at q;cases q)];exact q
 ·by_cases z:b=d
  ·subst z;rw[aY] at q;cases q;exact new
  ·rw[aP z] at q
   refine (I.hok b u q).stay (fun c v hc r=>(sb.2 c ?_).trans r) (fun c r=>?_) (fun c xs r=>?_) fun c xs r=>?_
   ·rcases hc with z2|z2
    · rw [z2]; exact z
    · intro z3; rw [z3, hd] at z2; cases z2
   ·rw[aP (fun z3=>by rw[z3,hd] at r;cases r)];exact r
   ·rw[aP (fun z3=>by rw[z3,hd] at r;cases r)];exact r
   ·rw[aP (fun z3=>by rw[z3,hd] at r;cases r)];exact r
def aON(K:Frag)(ta tv:TE)(f:Str):TS:=fun D σ H=>tv σ H fun y H1=>ta σ H1 fun x H2=>∃ a W C,x=.ref a/\SX.ExcC K W C/\PySem.W.findIn K (.ref C) f=some none /\
 ((H2 a=some (ExN a C none)/\∀ d,H2 d=none->d≠a->D.nx σ (upd (upd H2 a (ExN a C (some d))) d (.xd [(f,y)]))) \/
  (∃ d fs,H2 a=some (ExN a C (some d))/\H2 d=some (.xd fs)/\fs.length < 1000/\D.nx σ (upd H2 d (.xd (iB f y fs)))))
section
variable{X:Cx}{o e value:Expr}{f:Str}{pos pos':Pos}{ta tv:TE}
theorem aFE{fs:List (Str×V)}{mA:Str->Option Value}(r:∀ f,gZ (fs.lookup f) (mA f)):PySem.Within mA (fs.map (·.1)):=fun y hy=>by
 cases q:fs.lookup y with
 | none=>exact absurd (gZ.none_of (by rw[<-q];exact r y)) hy
 | some v=>exact List.mem_map.mpr ⟨(y,v),PySem.mem_of_lookup q,rfl⟩
theorem aKA(ha:PE X o ta)(hv:PE X value tv)(hs:swapsWith value (some (.Attribute o f pos')) pos.line X.env=pure false):PS X (.Assign [.Attribute o f pos'] value pos) (aON X.K ta tv f):=by
 intro pins s σ H D I h
 refine plainObj_wpAny_Assign_Attribute (thn (hv pins s σ H _ I h) fun u s1 ⟨y,H1,I1,ry,q⟩=>thn (ha pins s1 σ H1 _ I1 q) fun ov s2 zz0=>?_) hs
 obtain ⟨x,H2,I2,rx,a,W,C,ex,c,n,q2⟩:=zz0
 subst ex
 obtain rfl:ov=Value.ref a:=rx
 rcases q2 with ⟨ea,q2⟩|⟨d,fs,ea,ed,hl,q2⟩
 ·obtain ⟨vs,hx,h1⟩:=zL I2.hok ea
  refine SX.aE7 I2.kIn c n hx fun h' tk' hx' hns kp=>?_
  have fd:H2 s2.heap.objs.size=none:=I2.hok.fresh (Nat.le_refl _)
  have ne:s2.heap.objs.size≠a:=Nat.ne_of_gt (Heap.lt_size hx)
  refine ⟨σ,_,?_,q2 s2.heap.objs.size fd ne⟩
  have nea:∀ b (u:Obj),H2 b=none->b≠a:=fun b u z zz=>by rw[zz,ea] at z;cases z
  have ned:∀ b u,H2 b=some u->b≠s2.heap.objs.size:=fun b u z=>c6 z fd
  have hokA:HOk X.prog X.w (upd (upd H2 a (ExN a C (some s2.heap.objs.size))) s2.heap.objs.size (.xd [(f,y)])) h':=fun b u z=>by
   by_cases hb:b=s2.heap.objs.size
   ·subst hb;rw[aY] at z;cases z
    refine ⟨_,hns,fun g=>?_⟩
    show gZ (List.lookup g [(f,y)]) (if g=f then some u else none)
    rw[List.lookup_cons]
    by_cases hg:g=f
    ·subst hg;rw[if_pos rfl];simp only[beq_self_eq_true];exact ry
    ·rw[if_neg hg,beq_false_of_ne hg];exact True.intro
   ·rw[aP hb] at z
    by_cases hb2:b=a
    ·subst hb2;rw[aY] at z;cases z
     exact aE9 hx' h1
    ·rw[aP hb2] at z
     refine (I2.hok b u z).stay (fun c' v hc r=>kp c' v ?_ r) (fun c' r=>?_) (fun c' xs r=>?_) fun c' xs r=>?_
     ·rcases hc with z2|z2
      · rw [z2]; exact hb2
      · intro z3; rw [z3, ea] at z2; cases z2
     ·rw[aP (ned c' _ r),aP (fun z3=>by rw[z3,ea] at r;cases r)];exact r
     ·rw[aP (ned c' _ r),aP (fun z3=>by rw[z3,ea] at r;cases r)];exact r
     ·rw[aP (ned c' _ r),aP (fun z3=>by rw[z3,ea] at r;cases r)];exact r
  refine I2.un (t':=tk') ⟨fun b ob q n _ _=>kp b ob (nea b ob n) q,fun b ob q n _ _=>⟨ob.slots,kp b ob (nea b ob n) q⟩,fun b ob q n _=>by rw[aP (Nat.ne_of_lt (Heap.lt_size q)),aP (nea b ob n)];exact n,fun b ob q _=>?_,fun b xs q=>?_,fun b ob u' q=>?_,fun b ps q=>?_⟩ hokA
  ·by_cases z:b=a
   ·subst z;exact ⟨_,hx'⟩
   ·exact ⟨ob,kp b ob z q⟩
  ·rw[aP (ned b _ q),aP (fun z3=>by rw[z3,ea] at q;cases q)];exact q
  ·rw[aP (ned b _ q),aP (fun z3=>by rw[z3,ea] at q;cases q)];exact q
  ·rw[aP (ned b _ q),aP (fun z3=>by rw[z3,ea] at q;cases q)];exact q
 ·obtain ⟨vs,hx,h1⟩:=zL I2.hok ea
  obtain ⟨mA,hns,r⟩:=(show cS X.prog X.w H2 s2.heap d (.xd fs) from I2.hok d _ ed)
  have ne:d≠a:=fun z=>by rw[z,ea] at ed;cases ed
  refine SX.aHB (ns:=fs.map (·.1)) I2.kIn c n hx ne hns (aFE r) (by rw[List.length_map,sizeLine_eq];omega) fun h' tk' hns' sb=>?_
  refine ⟨σ,_,I2.xdw (t':=tk') ed sb ⟨_,hns',fun g=>?_⟩,q2⟩
  show gZ ((iB f y fs).lookup g) (if g=f then some u else mA g)
  rw[n8]
  by_cases q:g=f
  ·rw[if_pos q,if_pos q];exact ry
  ·rw[if_neg q,if_neg q];exact r g
end
inductive TyX(K:Frag)(H:Hp):V->Value->Prop where
 | pl {x:V} {t:Value} (h:TyOf K H x t):TyX K H x t
 | exc {a W C:Addr} {d:Addr} {fs:List (Str×V)} (c:SX.ExcC K W C) (e:H a=some (ExO a C (some d))) (ed:H d=some (.xd fs)):TyX K H (.ref a) (.ref C)
 | exc0 {a W C:Addr} (c:SX.ExcC K W C) (e:H a=some (ExO a C none)):TyX K H (.ref a) (.ref C)
def aDU:V->Option Value
 | .ty n=>some (.type n)
 | .ref a=>some (.ref a)
 | _=>none
theorem vX{x:V}{u v:Value}(h:aDU x=some v)(r:bS x u):u=v:=by
 cases x with
 | ty n=>cases h;exact r
 | ref a=>cases h;exact r
 | _=>cases h
theorem lB{X:Cx}:jO X (.builtin "isinstance") (fun xs H Q=>∃ x c t cv b,xs=[x,c]/\TyX X.K H x t/\aDU c=some cv/\PySem.W.kitOne X.K t cv=some b/\Q (.bl b) H):=by
 intro pins s σ H xs us Q I r h
 obtain ⟨x,c,t,cv,b,rfl,ty,hc,e,q⟩:=h
 obtain ⟨u,v,rfl,ru,rv⟩:=yR r
 obtain rfl:=vX hc rv
 cases ty with
 | pl ty=>exact aEY I ru ty e fun tk=>⟨.bl b,H,I.tok _,rfl,q⟩
 | @exc a W C d fs cc ea ed=>
  cases (show u=Value.ref a from ru)
  obtain ⟨vs,hx⟩:=aFB I.hok ea
  obtain ⟨mA,hns,r⟩:=(show cS X.prog X.w H s.heap d (.xd fs) from I.hok d _ ed)
  obtain ⟨od,hod,_⟩:=p9 hns
  exact SX.uE (o:=some od) I.kIn cc ⟨hx,rfl,rfl,hod⟩ e fun tk=>⟨.bl b,H,I.tok _,rfl,q⟩
 | @exc0 a W C cc ea=>
  cases (show u=Value.ref a from ru)
  obtain ⟨vs,hx⟩:=aFB I.hok ea
  exact SX.uE (o:=none) I.kIn cc ⟨hx,rfl,rfl,True.intro⟩ e fun tk=>⟨.bl b,H,I.tok _,rfl,q⟩
def zO(C:Addr)(spI:Sp)(E:XK)(ta:TA):TS:=fun _ σ H=>ta σ H fun vs H1=>vs.length<=1000/\∀ e,H1 e=none->
 spI (.ref e::vs) (upd H1 e (ExN e C none)) (fun v H2=>v=.non/\∃ od,H2 e=some (ExN e C od)/\E (.ref C) (some e) (upd H2 e (ExO e C od))) E0
section
variable{X:Cx}{E:XK}{W C fI:Addr}{fdI:FuncData}{ps:List Str}{spI:Sp}{k:Nat}{x:Str}{np cpos pos:Pos}{e0:Expr}{rest:List Expr}{ta:TA}
theorem tD(hc:X.calm=true)(c:SX.ExcC X.K W C)(hg:Gl X x)(hm:X.mg x=some (.ref C))(FI:FnOk X.prog X.w X.K X.mg X.base CX0 k fI fdI ps spI)(hi:PySem.W.findIn X.K (.ref C) "__init__"=some (some (.ref fI)))
  (hf:PySem.W.typeIn X.K (.ref fI)=some (.type "function")) (hb:dC X.K fdI ps []) (hr:Room (k+1) X.A) (ha:PA (X.fly E) (e0::rest) ta) (hdb:(x == ("__debug__":Str))=false:=by decide)
  (he:starEach (e0::rest) X.env=(false,eval e0 X.env)::starEach rest X.env:=by rfl) (hpl:(backTo cpos (starEach rest X.env)).any (·.1)=false:=by rfl) :
  PS (X.fly E) (.Raise (some (.Call (.Name x np) (e0::rest) [] cpos)) none pos) (zO C spI E ta):=by
 intro pins s σ H D I h
 obtain ⟨nm,q,N,bs,sn,sub,ab,col,dd,k0,k1,k2,k3,k5,lk⟩:=c.lk
 have core:wpAny (model X.prog X.w) X.A (eval (.Call (.Name x np) (e0::rest) [] cpos) X.env) (fun v s1=>∃ e od vs,v=.ref e/\s1.heap.get? C=some (excClassObj nm q C N bs (.ref W::SX.i8) true sn sub ab col dd k0 k1 k2 k3 k5 "ValueError.__new__") /\
   s1.heap.get? e=some {cls:=.ref C,dict:=od,data:=.fields vs}/\vs[1]? = some .none/\Fly X E (.ref e) s1) (Fly X E) s:=by
  refine wpAny_Call_Name_kw (rM (X:=X) I.unwish hg hm ?_ hdb)
  refine PySem.W.callWith_K (h₀:=X.base) I.ok.mod.kin c.kp (thn (ha cpos pins s σ H _ I h) fun us s1 ⟨vs,H1,I1',r,hz,q1⟩=>⟨I1'.kIn,?_⟩) he hpl
  have I1:Inv X pins σ H1 s1:=I1'.unwish
  obtain ⟨hp,g,d,tk,os⟩:=s1
  have hz':us.length<=sizeLine:=by rw[<-r.length,sizeLine_eq];omega
  refine SX.aG9 PySem.F.excBase_ValueError (SX.aHA W) I1.kIn (I1.kIn _ _ lk) hi hf (fun h' e hm' hle=>?_) hz'
  obtain ⟨t,het,_,_⟩:=hm'.there
  have I2:Inv X pins σ (upd H1 e (ExN e C none)) ⟨h',g,d,tk,os⟩:=I1.laid (t':=tk) hm'.keeps hle (aE9 het rfl)
  have q2:=q1 e (I1.hok.fresh hle)
  have r2:bJ (V.ref e::vs) (Value.ref e::us):=.cons rfl r
  have hl:(Value.ref e::us++[]).length=ps.length:=by
   have z:=r2.length
   rw[FI.len _ _ _ _ q2] at z
   rw[List.append_nil]
   exact z.symm
  have hl':(Value.ref e::us).length=ps.length:=by rw[List.append_nil] at hl;exact hl
  have bb:=hb ⟨h',g,d,tk,os⟩ (Value.ref e::us) I2.kIn hl
  rw[List.append_nil] at bb
  refine wpAny_call (codeAny_mono (FI.run _ X.stack ⟨h',g,d,tk,os⟩ _ ⟨Value.ref e::us,[]⟩ (Value.ref e::us) (V.ref e::vs) _ E0 (hr.make C us []) (I2.env0.make C us []) bb r2 q2) fun res s' hq=>?_)
  cases res with
  | error e=>exact False.elim hq
  | ok fl=>
   cases fl with
   | next=>exact False.elim hq
   | brk=>exact False.elim hq
   | cont=>exact False.elim hq
   | ret u=>
    obtain ⟨v,H3,I3,rv,ev,od,ee,q3⟩:=I2.after hq
    subst ev
    obtain ⟨vs',hx,h1⟩:=zL I3.hok ee
    refine ⟨rv,e,od,vs',rfl,I3.kIn _ _ lk,hx,h1,?_⟩
    have I4:Inv X pins σ (upd H3 e (ExO e C od)) {s' with heap:=s'.heap,toks:=s'.toks}:=I3.write (x:=e) (e:=e) (by rw[ee];exact True.intro) (.inl rfl) (fun b u _ z=>z) ⟨_,hx⟩ (aFA hx)
    have I5:Inv X [] σ (upd H3 e (ExO e C od)) s':=(show Inv X pins σ _ s' from I4).pins_of fun p hp=>absurd hp (by simp)
    exact ⟨e,C,od,σ,_,rfl,I5,⟨aY,vs',none,hx,h1,(fun t z=>nomatch z),(fun z=>nomatch z)⟩,q3⟩
 show wpAny (model X.prog X.w) X.A (exec (.Raise (some (.Call (.Name x np) (e0::rest) [] cpos)) none pos) X.env) _ (Fly X E) s
 rw[arm_exec_Raise]
 first
  | refine wpAny_bind (wpAny_standAt (SX.uD (SX.aHA W) (I.ok.hd hc) (wpAny_bind (wpAny_mono core (fun v s1 h1=>wpAny_bind (wpAny_standAt (wpAny_pure h1))) fun _ _ z=>z))))
  | (simp only[evalOpt,Option.map];refine wpAny_bind (wpAny_standAt (SX.uD (SX.aHA W) (I.ok.hd hc) (wpAny_bind (wpAny_mono core (fun v s1 h1=>wpAny_bind (wpAny_standAt (wpAny_pure h1))) fun _ _ z=>z)))))
end
end L2
namespace SX
open PySem PySem.W
structure ExcAny(K:Frag)(C:Addr)(bm:List Value):Prop where
 lk:∃ nm q N bs hd sn sub ab col dd k0 k1 k2 k3 k5 newId,K.lookup C=some (excClassObj nm q C N bs bm hd sn sub ab col dd k0 k1 k2 k3 k5 newId)
 base:bm.contains (.type "BaseException")=true
end SX
namespace L2
open PySem PySem.Spec PyProof.Rows
end L2
namespace L2
open PySem PySem.Spec PyProof.Rows
structure Blt(mg:Str->Option Value):Prop where
 b_len:mg "len"=none
 b_isinstance:mg "isinstance"=none
 b_all:mg "all"=none
 b_max:mg "max"=none
 b_min:mg "min"=none
 b_int:mg "int"=none
 b_str:mg "str"=none
 b_bool:mg "bool"=none
 b_tuple:mg "tuple"=none
 b_list:mg "list"=none
 b_range:mg "range"=none
 b_enumerate:mg "enumerate"=none
 b_ValueError:mg "ValueError"=none
structure DefAt(K:Frag)(mg:Str->Option Value)(x:Str)(st:Stmt)(ps:List Str):Prop where
 ex:∃ f fd,Fun K x x st f fd/\dC K fd ps []/\mg x=some (.ref f)
def Calls(P:Program)(w:World)(K:Frag)(mg:Str->Option Value)(base:Heap)(CX:CXT)(k:Nat)(x:Str)(ps:List Str)(sp:Sp):Prop:=
 ∃ f fd,FnOk P w K mg base CX k f fd ps sp/\dC K fd ps []/\mg x=some (.ref f)/\PySem.W.keepIn K (.ref f)=true
section
variable{P:Program}{w:World}{K:Frag}{mg:Str->Option Value}{base:Heap}{x:Str}{st:Stmt}{N ps:List Str}{k:Nat}{sp:Sp}
theorem DefAt.ok(D:DefAt K mg x st ps)(S:FnScope N ps (aM st))(len:∀ vs H Q E,sp vs H Q E->vs.length=ps.length)
  (hbody:∀ (f:Addr) (cdv:Value) (A:Around) (outer:List Env) (s:Shared) (H:Hp) (vs:List V) (Q:VK) (E:XK),Room k (A.deeper (envOfC x (aM st) s.heap.objs.size f cdv))->sp vs H Q E->
   ∃ t,PSs (i7 CX0 P w K mg base N x (aM st) f cdv A outer s H E).nox (cC st) t/\t {nx:=fun _ H'=>Q .non H',rt:=Q} (start N vs) H):Calls P w K mg base CX0 (k+1) x ps sp:=by
 obtain ⟨f,fd,F,b,m⟩:=D.ex
 exact ⟨f,fd,F.ok S len (hbody f),b,m,F.kp⟩
theorem DefAt.okX(D:DefAt K mg x st ps)(S:FnScope N ps (aM st))(len:∀ vs H Q E,sp vs H Q E->vs.length=ps.length)
  (hbody:∀ (f:Addr) (cdv:Value) (A:Around) (outer:List Env) (s:Shared) (H:Hp) (vs:List V) (Q:VK) (E:XK),Room k (A.deeper (envOfC x (aM st) s.heap.objs.size f cdv))->sp vs H Q E->
   ∃ t,PSs ((i7 (CXe P w) P w K mg base N x (aM st) f cdv A outer s H E).fly E) (cC st) t/\t {nx:=fun _ H'=>Q .non H',rt:=Q} (start N vs) H):Calls P w K mg base (CXe P w) (k+1) x ps sp:=by
 obtain ⟨f,fd,F,b,m⟩:=D.ex
 exact ⟨f,fd,F.okX S len (hbody f),b,m,F.kp⟩
theorem Calls.imp{CX:CXT}{sp':Sp}(C:Calls P w K mg base CX k x ps sp)(h:∀ vs H Q E,sp' vs H Q E->sp vs H Q E):Calls P w K mg base CX k x ps sp':=by
 obtain ⟨f,fd,F,b,m,kp⟩:=C
 exact ⟨f,fd,F.imp h,b,m,kp⟩
end
section
variable{X:Cx}{CX:CXT}{k:Nat}{x:Str}{ps:List Str}{sp:Sp}{E:XK}{p pos:Pos}{e:Expr}{es:List Expr}{t:TA}
theorem bX(C:Calls X.prog X.w X.K X.mg X.base CX k x ps sp)(hr:Room k X.A)(hg:Gl X x)(hx:jI CX X E)(ha:PA X (e::es) t)(hdb:(x == ("__debug__":Str))=false:=by decide)
  (he:starEach (e::es) X.env=(false,eval e X.env)::starEach es X.env:=by rfl) (hpl:(backTo pos (starEach es X.env)).any (·.1)=false:=by rfl):PE X (.Call (.Name x p) (e::es) [] pos) (t7 sp [] E t):=by
 obtain ⟨f,fd,F,b,m,kp⟩:=C
 exact aJ1 F hr hg m kp b .nil hx ha hdb he hpl
end
def spI(C:Addr)(fs:List Str):Sp:=fun vs H Q _=>∃ e xs,vs=.ref e::xs/\xs.length=fs.length/\H e=some (ExN e C none)/\∀ d,H d=none->d≠e->Q .non (upd (upd H e (ExN e C (some d))) d (.xd (fs.zip xs)))
structure ErrAt(P:Program)(w:World)(K:Frag)(mg:Str->Option Value)(base:Heap)(x:Str)(fs:List Str)(W C:Addr):Prop where
 c:SX.ExcC K W C
 m:mg x=some (.ref C)
 na:∀ f∈fs,PySem.W.findIn K (.ref C) f=some none
 i:∃ fI fdI,FnOk P w K mg base CX0 1 fI fdI ("self"::fs) (spI C fs)/\PySem.W.findIn K (.ref C) "__init__"=some (some (.ref fI))/\PySem.W.typeIn K (.ref fI)=some (.type "function")/\dC K fdI ("self"::fs) []
theorem aHE{H:Hp}{a b:Addr}{o u:HO}(h:a≠b):upd (upd H a o) b u=upd (upd H b u) a o:=by
 funext c
 unfold upd
 by_cases h1:c=a
 · subst h1; rw [if_neg h, if_pos rfl, if_pos rfl]
 · rw [if_neg h1, if_neg h1]
theorem aFF{X:Cx}{E:XK}{fs:List Str}{W C:Addr}{x:Str}{np cpos pos:Pos}{e0:Expr}{rest:List Expr}{ta:TA}(hc:X.calm=true)(er:ErrAt X.prog X.w X.K X.mg X.base x fs W C)(hg:Gl X x)(hr:Room 2 X.A)(ha:PA (X.fly E) (e0::rest) ta)
  (hdb:(x == ("__debug__":Str))=false:=by decide) (he:starEach (e0::rest) X.env=(false,eval e0 X.env)::starEach rest X.env:=by rfl) (hpl:(backTo cpos (starEach rest X.env)).any (·.1)=false:=by rfl) :
  PS (X.fly E) (.Raise (some (.Call (.Name x np) (e0::rest) [] cpos)) none pos) (zO C (spI C fs) E ta):=by
 obtain ⟨fI,fdI,FI,hi,hf,hb⟩:=er.i
 exact tD hc er.c hg er.m FI hi hf hb hr ha hdb he hpl
theorem aDV{C:Addr}{fs:List Str}{vs:List V}{E:XK}{H1:Hp}(hl:vs.length=fs.length)(hz:vs.length<=1000)
  (h:∀ e d,H1 e=none->H1 d=none->d≠e->E (.ref C) (some e) (upd (upd H1 e (ExO e C (some d))) d (.xd (fs.zip vs)))) :
  vs.length<=1000/\∀ e,H1 e=none->spI C fs (.ref e::vs) (upd H1 e (ExN e C none)) (fun v H2=>v=.non/\∃ od,H2 e=some (ExN e C od)/\E (.ref C) (some e) (upd H2 e (ExO e C od))) E0:=by
 refine ⟨hz,fun e he=>⟨e,vs,rfl,hl,aY,fun d hd hde=>⟨rfl,some d,?_,?_⟩⟩⟩
 ·rw[aP (Ne.symm hde),aY]
 ·have hd':H1 d=none:=by rw[aP hde] at hd;exact hd
  have:=h e d he hd' hde
  rw[iQ,aHE (a:=d) (b:=e) hde,iQ]
  exact this
theorem DatV.tup_of{K:Frag}{H:Hp}{v:V}{ds:List PyData}(h:DatV K H v (.tuple ds)):∃ a xs,v=.ref a/\SqT K H a xs/\DatVs K H xs ds:=by
 cases h with
 | tup h1 h2=>exact ⟨_,_,rfl,h1,h2⟩
theorem DatV.lst_of{K:Frag}{H:Hp}{v:V}{ds:List PyData}(h:DatV K H v (.list ds)):∃ a xs,v=.ref a/\SqL K H a xs/\DatVs K H xs ds:=by
 cases h with
 | lst h1 h2=>exact ⟨_,_,rfl,h1,h2⟩
theorem DatV.int_of{K:Frag}{H:Hp}{v:V}{i:Int}(h:DatV K H v (.int i)):v=.int i:=by cases h;rfl
theorem DatV.str_of{K:Frag}{H:Hp}{v:V}{i:Str}(h:DatV K H v (.str i)):v=.str i:=by cases h;rfl
theorem DatVs.cons_of{K:Frag}{H:Hp}{xs:List V}{d:PyData}{ds:List PyData}(h:DatVs K H xs (d::ds)):∃ x t,xs=x::t/\DatV K H x d/\DatVs K H t ds:=by
 cases h with
 | cons h1 h2=>exact ⟨_,_,rfl,h1,h2⟩
theorem DatVs.nil_of{K:Frag}{H:Hp}{xs:List V}(h:DatVs K H xs []):xs=[]:=by cases h;rfl
theorem eI.nil:eI [] []:=⟨rfl,fun _ _ h=>by simp at h⟩
theorem eI.nil_of{σ:St}(h:eI [] σ):σ=[]:=List.length_eq_zero_iff.mp h.1
def SqS(K:Frag)(H:Hp)(a:Addr)(xs:List V):Prop:=SqL K H a xs\/SqT K H a xs
theorem SqS.same{K:Frag}{H H':Hp}{a:Addr}{xs:List V}(e:aR H H')(h:SqS K H a xs):SqS K H' a xs:=h.imp (SqL.same e) (SqT.same e)
theorem PI.or{X:Cx}{tg iter:Expr}{w1 w2:TI}(h1:PI X tg iter w1)(h2:PI X tg iter w2):PI X tg iter (fun σ H R=>w1 σ H R\/w2 σ H R):=fun pins s σ H R I h=>h.elim (h1 pins s σ H R I) (h2 pins s σ H R I)
def aPU(K:Frag)(tl:TE):TI:=fun σ H R=>tl σ H fun x H1=>∃ a,x=.ref a/\(((∃ xs,SqL K H1 a xs)/\R (Itl K a) H1)\/((∃ xs,SqT K H1 a xs)/\R (Itt K a) H1))
theorem aMQ{X:Cx}{tg l:Expr}{tl:TE}(hl:PE X l tl):PI X tg l (aPU X.K tl):=by
 intro pins s σ H R I h
 refine thn (hl pins s σ H _ I h) fun v s1 zz0=>?_
 obtain ⟨x,H1,I1,r1,q1⟩:=zz0
 obtain ⟨a,e,q⟩:=q1
 subst e
 cases r1
 rcases q with ⟨⟨xs,hq⟩,q⟩|⟨⟨xs,hq⟩,q⟩
 ·obtain ⟨its,rv,p,hz⟩:=I1.list hq
  refine wpAny_pyIter_list p.isList ?_
  refine ⟨s1.heap.objs.size,[s1.heap.objs.size],_,_,H1,rfl,I1.kept (t':=s1.toks) fun b o e=>Heap.get?_push_of_some _ e,aEU a _,⟨_,Heap.get?_push_size _ rfl,rfl,rfl⟩,fun b hb=>?_,q⟩
  obtain rfl:=List.mem_singleton.mp hb
  exact I1.fpOk (Nat.le_refl _) (I1.hok.fresh (Nat.le_refl _))
 ·obtain ⟨its,rv,p,hz⟩:=I1.tuple hq
  refine wpAny_pyIter_tuple (show s1.heap.IsTuple a its.toArray from p) ?_
  refine ⟨s1.heap.objs.size,[s1.heap.objs.size],_,_,H1,rfl,I1.kept (t':=s1.toks) fun b o e=>Heap.get?_push_of_some _ e,aDD a _,⟨_,Heap.get?_push_size _ rfl,rfl,rfl⟩,fun b hb=>?_,q⟩
  obtain rfl:=List.mem_singleton.mp hb
  exact I1.fpOk (Nat.le_refl _) (I1.hok.fresh (Nat.le_refl _))
end L2
namespace L2
open PySem PySem.Spec PyProof.Rows
def aOO(i j:Int):Prop:=0 < j/\j < 2 ^ 64
theorem aHF{X:Cx}:OpR X (binaryOp .FloorDiv) (rI aOO fun i j=>.int (i / j)):=opI fun i j _ _ _ _ _ hc q=>by
 have h1:(0:Int) < j:=hc.1
 have h2:j < 2 ^ 64:=hc.2
 have h3:j.natAbs < 2 ^ 64:=by omega
 have h4:j.natAbs.log2 < 64:=(Nat.log2_lt (by omega)).mpr h3
 exact floordiv_int (by omega) (by rw[Int.fdiv_eq_ediv_of_nonneg i (by omega)];exact q) (.inl (PyProof.noPylong_of_log2 (by omega)))
theorem aOP{X:Cx}{P:Program}{w:World}:jI (CXe P w) X E0:=by
 rintro pins σ H s ev s' I ⟨e,C,od,H',rfl,os,bare,un,hok,he,hv,q⟩
 exact q.elim
section
variable{X:Cx}
def aPV:V->Option Int->Option Int->Hp->VK->Prop:=fun x lo hi H Q=>∃ z,x=.str z/\z.length<=sizeLine/\Q (.str (Txt.slice z lo hi)) H
theorem aCA{v:Value}{o:Option Int}(h:IsPart v o):∃ l:Option (Int×Tok),partValue l=v/\l.map (·.1)=o:=by
 cases h with
 | none=>exact ⟨none,rfl,rfl⟩
 | int i t=>exact ⟨some (i,t),rfl,rfl⟩
theorem aMR:SlR X aPV:=by
 intro pins s σ H x v vl vu lo hi sl Q I rx hs pl pu h
 obtain ⟨z,rfl,hz,q⟩:=h
 obtain ⟨t,rfl⟩:=rx
 obtain ⟨l,rfl,el⟩:=aCA pl
 obtain ⟨u,rfl,eu⟩:=aCA pu
 obtain ⟨o,ho,hc,hd⟩:=hs
 refine ⟨"str",_,PyProof.Rows.slot_str_getitem.lookup,rfl,?_⟩
 refine wpAny_getItem_str_slice (l:=l) (u:=u) (st:=none) ⟨o,ho,hc,hd⟩ rfl ?_
 have le:=Txt.slice_le z lo hi
 unfold Txt.slice at q le
 unfold sliceMade slicePicked
 rw[el,eu]
 simp only[beq_self_eq_true,Bool.true_and,Option.map_none,Option.getD_none] at q le ⊢
 by_cases hb:((Builtin.Str.strSliceIndices lo hi 1 z.length).length == z.length)=true
 ·rw[if_pos hb] at q ⊢
  exact ⟨.str z,H,I,⟨t,rfl⟩,q⟩
 ·rw[if_neg hb] at q le ⊢
  exact ⟨Nat.le_trans le hz,.str _,H,I.tok _,⟨_,rfl⟩,q⟩
def aFG:V->List V->Hp->VK->Prop:=fun x vs H Q=>∃ z y i rest,x=.str z/\vs=[.str y]/\Builtin.Str.occurrences z y 0 z.length 1=i::rest/\Q (.int i) H
theorem zP:MtR X "str.index" aFG:=by
 intro pins s σ H x vs v us Q I rx rv h
 obtain ⟨z,y,i,rest,rfl,rfl,ho,q⟩:=h
 obtain ⟨t,rfl⟩:=rx
 obtain ⟨u,rfl,tu,rfl⟩:=rv.one
 exact call_gives F.slot_str_index rfl F.entry_str_index (F.args_str_index_2 _ _) (gives_str_index z y t tu i rest ho) ⟨.int i,H,I.tok _,⟨_,rfl⟩,q⟩
def Ity(z:Str):It:=
 ⟨fun i _=>i < z.cps.size,fun i H x H'=>∃ p c,H p=none/\x=.ref p/\H'=upd H p (.tup [.int i,.str ⟨#[c]⟩])/\z.cps[i]? = some c,fun i _=>i=z.cps.size⟩
theorem aDW{P:Program}{w:World}{K:Frag}{es:List Expr}{k1}{tpos:Pos}(z:Str)(t:Tok)(T:String)(hT:∀ A:Around,A.handled=none->∀ it,Draws P w A it [it] z.cps.size (fun i v=>∃ c u,z.cps[i]? = some c/\v=Value.str {cps:=#[c]} u) fun i h=>h.IsStrIter it T z t i)
  (e it:Addr) (hei:e≠it):Turn P w K (.Tuple es k1 tpos) (Ity z) [e,it] e (fun i h=>(∃ old,IsEnum h e it i old)/\h.IsStrIter it T z t i) where
 mem:=by simp
 obj:=fun i h st b hb=>by
  obtain ⟨⟨old,s1⟩,o,e2,c,d⟩:=st
  rcases List.mem_cons.mp hb with z|z
  ·subst z
   exact ⟨_,s1,fun v z=>by
    have z':Data.fields _=Data.cell v:=z
    cases z'⟩
  ·obtain rfl:b=it:=by simpa using z
   exact ⟨o,e2,fun v z=>by rw[d] at z;cases z⟩
 keep:=fun i h h' st k=>by
  obtain ⟨⟨old,s1⟩,o,e2,c,d⟩:=st
  exact ⟨⟨old,k e (by simp) _ s1⟩,o,k it (by simp) o e2,c,d⟩
 item:=by
  intro X hP hw hK hc i pins s σ H E I hf st hg
  subst hP hw hK
  obtain ⟨⟨old,s1⟩,s2⟩:=st
  obtain ⟨f0,f1,f2,f3,f4,f5⟩:=hf e (by simp)
  obtain ⟨g0,g1,g2,g3,g4,g5⟩:=hf it (by simp)
  refine wpAny_pyNext_enum_itemD (hT X.A.in1 (I.ok.hd hc) it) s1 s2 hg hei (by simpa using hei) fun u h' tk zz0 so si st hz' kp=>?_
  obtain ⟨c,tc,hcc,hu⟩:=zz0
  subst hu
  refine ⟨_,rfl,wpAny_letOwnedTupleGo_enum so fun h2 se sb=>?_⟩
  have ne1:s.heap.objs.size≠e:=Nat.ne_of_gt (Heap.lt_size s1)
  have hT2:h2.get? s.heap.objs.size=some {cls:=.type "tuple",data:=.seq #[.int i tk,.str ⟨#[c]⟩ tc]}:=(sb.2 _ ne1).trans st
  have fT:H s.heap.objs.size=none:=I.hok.fresh (Nat.le_refl _)
  have kp2:∀ b o,b≠e->b≠it->s.heap.get? b=some o->h2.get? b=some o:=fun b o h1 h2' q=>(sb.2 b h1).trans (kp b o h1 h2' q)
  have hok2:HOk X.prog X.w H h2:=fun b uu q=>by
   refine (I.hok b uu q).stay (fun c v hc q'=>kp2 c v ?_ ?_ q') (fun _ q=>q) (fun _ _ q=>q) fun _ _ q=>q
   ·rcases hc with z|z
    ·rw[z];exact fun zz=>by rw[zz,f0] at q;cases q
    ·exact fun zz=>by rw[zz,f0] at z;cases z
   ·rcases hc with z|z
    ·rw[z];exact fun zz=>by rw[zz,g0] at q;cases q
    ·exact fun zz=>by rw[zz,g0] at z;cases z
  have hokT:HOk X.prog X.w (upd H s.heap.objs.size (.tup [.int i,.str ⟨#[c]⟩])) h2:=HOk.track hok2 fT ⟨by show 2<=sizeLine;decide,[.int i tk,.str ⟨#[c]⟩ tc],.cons ⟨_,rfl⟩ (.cons ⟨_,rfl⟩ .nil),⟨_,hT2,rfl,_,rfl⟩⟩
  have ltT:∀ b uu,H b=some uu->b≠s.heap.objs.size:=fun b uu q=>c6 q fT
  have I2:Inv X pins σ (upd H s.heap.objs.size (.tup [.int i,.str ⟨#[c]⟩])) {s with heap:=h2,gens:=s.gens,drawn:=s.drawn,toks:=tk+1}:=by
   refine I.step (ch:=[e,it]) (fun b hb=>?_) (fun b o _ _ hc q _=>kp2 b o (fun z=>hc (by simp[z])) (fun z=>hc (by simp[z])) q) (fun b o _ _ hc q _=>⟨o.slots,kp2 b o (fun z=>hc (by simp[z])) (fun z=>hc (by simp[z])) q⟩)
    (fun b o _ q n=>by rw[aP (Nat.ne_of_lt (Heap.lt_size q))];exact n) (fun b o hc q=>⟨o,kp2 b o (fun z=>hc (by simp[z])) (fun z=>hc (by simp[z])) q⟩) (fun b ys q=>by rw[aP (ltT b _ q)];exact q) (fun b o uu q=>by rw[aP (ltT b _ q)];exact q)
    (fun b ps q=>by rw[aP (ltT b _ q)];exact q) (fun m hm=>?_) hokT I.bare
   ·rcases List.mem_cons.mp hb with z|z
    ·subst z;exact ⟨f3,f1,f4,f5⟩
    ·obtain rfl:b=it:=by simpa using z
     exact ⟨g3,g1,g4,g5⟩
   ·obtain ⟨o,es',ep,ho,r⟩:=hm
    exact ⟨o,es',ep,kp2 _ o (Ne.symm f1) (Ne.symm g1) ho,r⟩
  refine ⟨.ref s.heap.objs.size,_,I2,rfl,⟨_,c,fT,rfl,rfl,hcc⟩,⟨⟨_,by simpa using se⟩,?_⟩,fun b hb=>?_⟩
  ·obtain ⟨o,q1,q2,q3⟩:=si
   exact ⟨o,(sb.2 it hei.symm).trans q1,q2,q3⟩
  ·rcases List.mem_cons.mp hb with z|z
   ·subst z;rw[aP (Ne.symm ne1)];exact f0
   ·obtain rfl:b=it:=by simpa using z
    obtain ⟨o,q,_⟩:=s2
    rw[aP (Nat.ne_of_lt (Heap.lt_size q))];exact g0
 done:=by
  intro X hP hw hK hc i pins s σ H E I hf st hg
  subst hP hw hK
  obtain ⟨⟨old,s1⟩,s2⟩:=st
  obtain ⟨g0,g1,g2,g3,g4,g5⟩:=hf it (by simp)
  have hg:i=z.cps.size:=hg
  subst hg
  exact wpAny_pyNext_enum_endD (hT X.A.in1 (I.ok.hd hc) it) s1 s2 fun h' eb=>⟨rfl,I.turned (t':=s.toks) (fun b o hb q=>eb b o hb q) g0 g1 g3 g4 g5⟩
 self:=fun _ _ _ _ _ st h=>wpAny_pyIter_enum st.1.choose_spec h
def aFH(ta:TA):TI:=fun σ H R=>ta σ H fun vs H1=>∃ z,vs=[.str z]/\R (Ity z) H1
theorem aHG{es:List Expr}{k1}{tpos:Pos}{a:Expr}{ta:TA}{p pos:Pos}(hg:Gl X "enumerate")(hm:X.mg "enumerate"=none)(ha:PA X [a] ta)(hs:starEach [a] X.env=[(false,eval a X.env)]:=by rfl) :
  PI X (.Tuple es k1 tpos) (.Call (.Name "enumerate" p) [a] [] pos) (aFH ta):=by
 intro pins s σ H R I h
 refine Call_ (lL I hg hm PyProof.Rows.boot_enumerate (PyProof.Rows.callWith_type1 (thn (ha pos pins s σ H _ I h) fun us s1 zz0=>?_) hs rfl))
 obtain ⟨vs,H1,I1,r1,q1⟩:=zz0
 obtain ⟨z,e,q⟩:=q1
 subst e
 obtain ⟨u,rfl,t,rfl⟩:=nI r1
 have hT:∀ A:Around,A.handled=none->∀ it,Draws X.prog X.w A it [it] z.cps.size (fun i v=>∃ c u,z.cps[i]? = some c/\v=Value.str {cps:=#[c]} u) fun i h=>h.IsStrIter it (strIterType z) z t i:=fun A hA it=>by
  unfold strIterType
  split
  · exact Draws.strAscii hA it z t
  · exact Draws.strWide hA it z t
 refine call_enumerate_str fun h' se si hz' kp=>?_
 have I2:Inv X pins σ H1 {s1 with heap:=h'}:=I1.kept (t':=s1.toks) kp
 refine wpAny_pyIter_enum se ?_
 refine ⟨s1.heap.objs.size+1,[s1.heap.objs.size+1,s1.heap.objs.size],_,_,H1,rfl,I2,aDW z t _ hT _ _ (Nat.ne_of_gt (Nat.lt_succ_self _)),⟨⟨_,se⟩,si⟩,fun b hb=>?_,q⟩
 rcases List.mem_cons.mp hb with z|z
 ·subst z
  exact I1.fpOk (Nat.le_succ _) (I1.hok.fresh (Nat.le_succ _))
 ·obtain rfl:b=s1.heap.objs.size:=by simpa using z
  exact I1.fpOk (Nat.le_refl _) (I1.hok.fresh (Nat.le_refl _))
end
theorem zQ{X:Cx}:jO X (.builtin "isinstance") (fun xs H Q=>∃ a ys c cv b,xs=[.ref a,c]/\SqT X.K H a ys/\aDU c=some cv/\PySem.W.kitOne X.K (.type "tuple") cv=some b/\Q (.bl b) H):=by
 intro pins s σ H xs us Q I r h
 obtain ⟨a,ys,c,cv,b,rfl,ha,hc,e,q⟩:=h
 obtain ⟨u,v,rfl,ru,rv⟩:=yR r
 obtain rfl:=vX hc rv
 cases (show u=Value.ref a from ru)
 obtain ⟨its,_,⟨o,h1,h2,_⟩,_⟩:=I.tuple ha
 exact PySem.W.kia_one PySem.W.kitx_tuple I.kIn ⟨o,h1,h2⟩ e (fun z=>nomatch z) fun tk=>⟨.bl b,H,I.tok _,rfl,q⟩
structure RoomH(k:Nat)(A:Around):Prop where
 dp:A.depth+3 * k+5 < recursionLimit
 un:A.units+16 * k+200 < cLine
theorem Room.h{k:Nat}{A:Around}(r:Room k A):RoomH k A:=⟨r.dp,r.un⟩
structure FnOkH(P:Program)(w:World)(K:Frag)(mg:Str->Option Value)(base:Heap)(k:Nat)(f:Addr)(fd:FuncData)(ps:List Str)(sp:Sp):Prop where
 len:∀ vs H Q E,sp vs H Q E->vs.length=ps.length
 run:∀ (A:Around) (outer:List Env) (s:Shared) (H:Hp) (args:Args) (us:List Value) (vs:List V) (Q:VK),RoomH k A->Env0 P w K mg base A outer s H->BindsTo s fd args (ps.zip us)->bJ vs us->sp vs H Q E0->
  codeAny (model P w) A (.call (.ref f) args) (CR CX0 outer P w H s Q E0) s
theorem FnOkH.ok{P:Program}{w:World}{K:Frag}{mg:Str->Option Value}{base:Heap}{k:Nat}{f:Addr}{fd:FuncData}{ps:List Str}{sp:Sp}(F:FnOkH P w K mg base k f fd ps sp)(hE:∀ vs H Q E,sp vs H Q E->sp vs H Q E0):FnOk P w K mg base CX0 k f fd ps sp:=
 ⟨F.len,fun A outer s H args us vs Q E hr he hb hv hs=>codeAny_mono (F.run A outer s H args us vs Q hr.h he hb hv (hE _ _ _ _ hs)) fun r s' h=>by
  cases r with
  | error e=>exact h
  | ok fl=>cases fl<;>exact h⟩
end L2
namespace Mc
open PySem L2 PyProof.Rows
inductive Tn where
 | n (i:Int)|w (x:Str)
noncomputable def Tn.v:Tn->V
 | .n i=>.int i
 | .w x=>.str x
noncomputable def Tn.d:Tn->PyData
 | .n i=>.int i
 | .w x=>.str x
structure Rw where
 l:Tn
 c:List (Int×Int)
 r:Tn
def iE(c:Int×Int):PyData:=.tuple [.int c.1,.int c.2]
def dZ(r:Rw):PyData:=.tuple [r.l.d,.tuple (r.c.map iE),r.r.d]
def dL(rs:List Rw):PyData:=.tuple (rs.map dZ)
inductive CellsAt(K:Frag)(H:Hp):List V->List (Int×Int)->Prop
 | nil:CellsAt K H [] []
 | cons {q:Addr} {a b:Int} {xs:List V} {cs:List (Int×Int)} (h:SqS K H q [.int a,.int b]) (t:CellsAt K H xs cs):CellsAt K H (.ref q::xs) ((a,b)::cs)
def yT(K:Frag)(H:Hp)(v:V)(r:Rw):Prop:=∃ p b cs,v=.ref p/\SqS K H p [r.l.v,.ref b,r.r.v]/\SqS K H b cs/\CellsAt K H cs r.c
inductive RowsAt(K:Frag)(H:Hp):List V->List Rw->Prop
 | nil:RowsAt K H [] []
 | cons {v:V} {r:Rw} {xs:List V} {rs:List Rw} (h:yT K H v r) (t:RowsAt K H xs rs):RowsAt K H (v::xs) (r::rs)
section
variable{K:Frag}{H H':Hp}
theorem CellsAt.same(e:aR H H'):∀ {xs:List V} {cs:List (Int×Int)},CellsAt K H xs cs->CellsAt K H' xs cs
 | _,_,.nil=>.nil
 | _,_,.cons h t=>.cons (h.same e) (t.same e)
theorem CellsAt.len:∀ {xs:List V} {cs:List (Int×Int)},CellsAt K H xs cs->xs.length=cs.length
 | _,_,.nil=>rfl
 | _,_,.cons h t=>by simp[t.len]
theorem yT.same(e:aR H H'){v:V}{r:Rw}(h:yT K H v r):yT K H' v r:=by
 obtain ⟨p,b,cs,h1,h2,h3,h4⟩:=h
 exact ⟨p,b,cs,h1,h2.same e,h3.same e,h4.same e⟩
theorem RowsAt.same(e:aR H H'):∀ {xs:List V} {rs:List Rw},RowsAt K H xs rs->RowsAt K H' xs rs
 | _,_,.nil=>.nil
 | _,_,.cons h t=>.cons (h.same e) (t.same e)
theorem RowsAt.len:∀ {xs:List V} {rs:List Rw},RowsAt K H xs rs->xs.length=rs.length
 | _,_,.nil=>rfl
 | _,_,.cons h t=>by simp[t.len]
end
def oY(K:Frag)(a:Addr)(xs:List V):Prop:=∃ (o:Obj) (its:Array Value) (n:Nat),K.lookup a=some o/\o.cls=.type "tuple"/\o.data=.seq its n/\its.size<=sizeLine/\bJ xs its.toList
theorem oY.sq{K:Frag}{a:Addr}{xs:List V}(h:oY K a xs)(H:Hp):SqT K H a xs:=.inr h
noncomputable def Tn.ok:Tn->Prop
 | .n _=>True
 | .w x=>PyData.strOk x=true
def Rw.ok(r:Rw):Prop:=r.l.ok/\r.r.ok
theorem vY:∀ {xs:List PyData},(∀ x∈xs,x.canLay0=true)->PyData.canLayAll0 xs=true
 | [],_=>by rfl
 | x::t,h=>by
  show (x.canLay0 && PyData.canLayAll0 t)=true
  rw[h x (List.mem_cons_self ..),vY fun y hy=>h y (List.mem_cons_of_mem _ hy)];rfl
theorem qF{n:Nat}:∀ {xs:List PyData},(∀ x∈xs,x.depth<=n)->PyData.depthAll xs<=n
 | [],_=>Nat.zero_le _
 | x::t,h=>by
  show max x.depth (PyData.depthAll t)<=n
  exact Nat.max_le.mpr ⟨h x (List.mem_cons_self ..),qF fun y hy=>h y (List.mem_cons_of_mem _ hy)⟩
def Sh(n:Nat)(d:PyData):Prop:=d.canLay0=true/\d.depth<=n
theorem qG{n:Nat}{xs:List PyData}(h:∀ x∈xs,Sh n x):Sh (n+1) (.tuple xs):=⟨vY fun x hx=>(h x hx).1,by
 have:=qF fun x hx=>(h x hx).2
 show PyData.depthAll xs+1<=n+1
 omega⟩
theorem sh_lst{n:Nat}{xs:List PyData}(h:∀ x∈xs,Sh n x):Sh (n+1) (.list xs):=⟨vY fun x hx=>(h x hx).1,by
 have:=qF fun x hx=>(h x hx).2
 show PyData.depthAll xs+1<=n+1
 omega⟩
theorem uF(n:Nat)(i:Int):Sh n (.int i):=⟨rfl,Nat.zero_le _⟩
theorem aMS(n:Nat){x:Str}(h:PyData.strOk x=true):Sh n (.str x):=⟨h,Nat.zero_le _⟩
theorem Sh.shaped{n:Nat}{d:PyData}(h:Sh n d)(hn:n<=64):SeqAt.shaped d=true:=by
 show (d.canLay0 && decide (d.depth<=64))=true
 rw[h.1,decide_eq_true (Nat.le_trans h.2 hn)];rfl
section
variable{K:Frag}{H:Hp}{p q:Addr}{xs ys:List V}{o:HO}
inductive NoL:PyData->Prop where
 | int (i:Int):NoL (.int i)
 | str (i:Str):NoL (.str i)
 | tup {ds:List PyData} (h:∀ d∈ds,NoL d):NoL (.tuple ds)
end
section
variable{K:Frag}{h:Heap}{mg:Str->Option Value}
theorem b8{x:Str}{st:Stmt}{ps:List Str}{f:Addr}{oc:Value}{od an:Option Addr}{osl:Array (Option Value)}{kV doc pm cdv ct:Value}(X:K.In h)(G:h.Ns mainGlobals mg)
  (a:PySem.W.nsIn K mainGlobals x=some (some (.ref f))) (l:K.lookup f=some ⟨oc,od,.func (PySem.W.fnOf x x (dD st) (cC st) (aM st) .none kV doc pm an cdv ct),osl⟩)
  (c:PySem.W.codeIn K cdv x=true) (k:PySem.W.keepIn K (.ref f)=true)
  (b:∀ (kV doc pm:Value) (an:Option Addr) (cdv ct:Value) (us:List Value),us.length=ps.length->bindArgs (PySem.W.fnOf x x (dD st) (cC st) (aM st) .none kV doc pm an cdv ct) ⟨us,[]⟩=pure (ps.zip us)):DefAt K mg x st ps:=by
 have F:=fN (st:=st) l c k
 exact ⟨f,_,F,F.binds b,PySem.W.mg_of X G a⟩
theorem aMT{a:Addr}{x y:Str}{t1 t2 n:Nat}{od:Option Addr}{sl:Array (Option Value)}(l:K.lookup a=some ⟨.type "tuple",od,.seq #[.str x t1,.str y t2] n,sl⟩):oY K a [.str x,.str y]:=
 ⟨_,_,_,l,rfl,rfl,by show 2<=sizeLine;decide,.cons ⟨_,rfl⟩ (.cons ⟨_,rfl⟩ .nil)⟩
theorem aMU{a:Addr}{x y:Int}{t1 t2 n:Nat}{od:Option Addr}{sl:Array (Option Value)}(l:K.lookup a=some ⟨.type "tuple",od,.seq #[.int x t1,.int y t2] n,sl⟩):oY K a [.int x,.int y]:=
 ⟨_,_,_,l,rfl,rfl,by show 2<=sizeLine;decide,.cons ⟨_,rfl⟩ (.cons ⟨_,rfl⟩ .nil)⟩
end
section
variable{K:Frag}{h:Heap}{mg:Str->Option Value}
theorem aKB{W C N:Addr}{bs sub:List Value}{nm q:Str}{ab:Bool}{sn:List Str}{col:Option Bool}{dd:Option Addr}{k0 k1 k2 k3 k5:Option Value}(l:K.lookup C=some (excClassObj nm q C N bs (.ref W::SX.i8) true sn sub ab col dd k0 k1 k2 k3 k5 "ValueError.__new__"))
 (sa:PySem.W.findIn K (.ref C) "__setattr__"=some (some (.builtin "object.__setattr__"))) (ga:PySem.W.findIn K (.ref C) "__getattribute__"=some (some (.builtin "BaseException.__getattribute__"))) (gh:PySem.W.findIn K (.ref C) "__getattr__"=some none) (cl:PySem.W.findIn K (.ref C) "__class__"=some (some (.builtin "object.__class__")))
 (clg:PySem.W.specialIn K (.builtin "object.__class__") "__get__"=some (some (.builtin "getset_descriptor.__get__"))) (clt:PySem.W.takesIn K (.builtin "object.__class__")=some true) (kp:PySem.W.keepIn K (.ref C)=true):SX.ExcC K W C:=⟨⟨_,_,_,_,_,_,_,_,_,_,_,_,_,_,l⟩,sa,ga,gh,cl,clg,clt,kp⟩
end
end Mc
namespace Mc
open PySem L2 PyProof.Rows
noncomputable def eJ(n c:Nat):Bool:=decide (97<=c/\c < 97+n)
noncomputable def lC(n:Nat):Nat->List Nat->Option Nat
 | _,[]=>none
 | i,c::t=>if eJ n c=true then lC n (i+1) t else some i
theorem uG(n i c:Nat)(t:List Nat):lC n i (c::t)=if eJ n c=true then lC n (i+1) t else some i:=rfl
theorem occ_one(x:Str)(c:Nat):(Builtin.Str.occurrences x ⟨#[c]⟩ 0 x.length 1=[]/\∀ i:Nat,x.cps.toList[i]? ≠ some c)\/∃ (i:Nat) (r:List Nat),Builtin.Str.occurrences x ⟨#[c]⟩ 0 x.length 1=i::r/\x.cps.toList[i]? = some c/\∀ k:Nat,k < i->x.cps.toList[k]? ≠ some c:=by
 rcases StrLaws.occ_head x ⟨#[c]⟩ 1 (Nat.le_refl _) with ⟨h1,h2⟩|⟨i,r,h1,h2,h3⟩
 · exact .inl ⟨h1, fun i e => h2 i ((StrLaws.subAt_one x c i).mpr e)⟩
 · exact .inr ⟨i, r, h1, (StrLaws.subAt_one x c i).mp h2, fun k hk e => h3 k hk ((StrLaws.subAt_one x c k).mpr e)⟩
theorem aKC{n:Nat}(h1:1<=n)(h2:n<=3):(Txt.slice "abc" none (some (n:Int))).cps.toList=[97,98,99].take n:=by
 obtain rfl|rfl|rfl:n=1\/n=2\/n=3:=by omega
 all_goals decide +kernel
theorem xE{n c:Nat}(h1:1<=n)(h2:n<=3):eJ n c=true↔∃ i:Nat,(([97,98,99]:List Nat).take n)[i]? = some c:=by
 unfold eJ
 rw[decide_eq_true_iff]
 constructor
 ·intro h
  refine ⟨c - 97,?_⟩
  obtain rfl|rfl|rfl:n=1\/n=2\/n=3:=by omega
  ·obtain rfl:c=97:=by omega
   rfl
  ·obtain rfl|rfl:c=97\/c=98:=by omega
   all_goals rfl
  ·obtain rfl|rfl|rfl:c=97\/c=98\/c=99:=by omega
   all_goals rfl
 ·rintro ⟨i,e⟩
  obtain ⟨hi,he⟩:=List.getElem?_eq_some_iff.mp e
  have hm:=List.getElem_mem hi
  rw[he] at hm
  obtain rfl|rfl|rfl:n=1\/n=2\/n=3:=by omega
  all_goals
   simp at hm
   omega
theorem aHH{n c:Nat}(h1:1<=n)(h2:n<=3):(!(!(Builtin.Str.occurrences (Txt.slice "abc" none (some (n:Int))) ⟨#[c]⟩ 0 (Txt.slice "abc" none (some (n:Int))).length 1).isEmpty)) = !eJ n c:=by
 have e:=aKC h1 h2
 rcases occ_one (Txt.slice "abc" none (some (n:Int))) c with ⟨a,b⟩|⟨i,r,a,b,_⟩
 ·rw[a]
  have:eJ n c=false:=Bool.eq_false_iff.mpr fun z=>by
   obtain ⟨i,hi⟩:=(xE h1 h2).mp z
   rw[e] at b
   exact b i hi
  rw[this];rfl
 ·rw[a]
  rw[e] at b
  rw[(xE h1 h2).mpr ⟨i,b⟩];rfl
theorem aFI{c:Nat}(h:eJ 3 c=true):∃ r,Builtin.Str.occurrences "abc" ⟨#[c]⟩ 0 ("abc":Str).length 1=(c - 97)::r:=by
 have h:=of_decide_eq_true h
 refine ⟨[],?_⟩
 obtain rfl|rfl|rfl:c=97\/c=98\/c=99:=by omega
 all_goals decide +kernel
end Mc
namespace L2
open PySem PySem.Spec PyProof.Rows
section
variable{κ:Type}[DecidableEq κ]
theorem gZ.getD{o:Option V}{u:Option Value}{d:V}{d':Value}(r:gZ o u)(rd:bS d d'):bS (o.getD d) (u.getD d'):=by
 cases o with
 | none=>cases u with
  | none=>exact rd
  | some _=>exact (show False from r).elim
 | some _=>cases u with
  | none=>exact (show False from r).elim
  | some _=>exact r
theorem KV.length{kvs:List (κ×V)}{vs:List (κ×Value)}(r:KV kvs vs):kvs.length=vs.length:=Paired.length r
end
theorem aI8{P:Program}{w:World}{k:Key}{u:Value}(r:bS (kV k) u):(eG P w).is k u=true:=by
 cases k with
 | inl i=>obtain ⟨t,e⟩:=(show ∃ t,u=Value.int i t from r);subst e;exact aBQ P w i t
 | inr x=>obtain ⟨t,e⟩:=(show ∃ t,u=Value.str x t from r);subst e;exact aBR P w x t
section
variable{X:Cx}{pins:List (Addr×Obj)}{σ:St}{H:Hp}{s:Shared}{a:Addr}{y v:V}{u r:Value}{o:Option V}{A:Around}{E:Value->Shared->Prop}
theorem Inv.big(I:Inv X pins σ H s):sysModules < s.heap.objs.size:=by
 have h:mainGlobals < s.heap.objs.size:=(I.mod.glob.keeps I.bk).lt
 exact Nat.lt_trans (by decide) h
theorem aCB{h':Heap}{t':Nat}{ob:HO}(I:Inv X pins σ H s)(mu:Mut (H a))(hs:Heap.SameBut a s.heap h')(he:∃ q,h'.get? a=some q)(new:cS X.prog X.w (upd H a ob) h' a ob) :
  Inv X pins σ (upd H a ob) {s with heap:=h',toks:=t'}:=
 I.write (x:=a) (e:=a) mu (.inl rfl) (fun b q hb z=>(hs.2 b hb).trans z) he new
end
structure M1(X:Cx)(o:Expr)(m:Str)(apos:Pos)(e:Expr)(cpos:Pos):Prop where
 base:attributeBase o m X.env (eval o X.env)=eval o X.env
 few:((backTo cpos (starEach [e] X.env)).all (fun x=>!x.1) && (backToKw cpos (keywordEach [] X.env)).all (fun x=>x.1.isSome)
  && decide (([e]:List Expr).length+([]:List Keyword).length+(if ([]:List Keyword).isEmpty then 0 else 1) < 30))=true
 line:(apos.endLine == cpos.line)=true
 trees:backTo cpos (starEach [e] X.env)=[(false,eval e X.env)]
structure M2(X:Cx)(o:Expr)(m:Str)(apos:Pos)(e f:Expr)(cpos:Pos):Prop where
 base:attributeBase o m X.env (eval o X.env)=eval o X.env
 few:((backTo cpos (starEach [e,f] X.env)).all (fun x=>!x.1) && (backToKw cpos (keywordEach [] X.env)).all (fun x=>x.1.isSome)
  && decide (([e,f]:List Expr).length+([]:List Keyword).length+(if ([]:List Keyword).isEmpty then 0 else 1) < 30))=true
 line:(apos.endLine == cpos.line)=true
 trees:backTo cpos (starEach [e,f] X.env)=[(false,eval e X.env),(false,eval f X.env)]
end L2
namespace L2
open PySem PySem.Spec PyProof.Rows
end L2
namespace L2
open PySem PySem.Spec PyProof.Rows
def oF(K:Frag)(H:Hp)(ks:List (List Key×Addr)):Prop:=∀ p∈ks,SqT K H p.2 (p.1.map kV)
theorem oF.same{K:Frag}{H H':Hp}{ks:List (List Key×Addr)}(e:aR H H')(h:oF K H ks):oF K H' ks:=fun p hp=>SqT.same e (h p hp)
theorem SqT.ext{K:Frag}{H:Hp}{a q:Addr}{φ:Heap->Prop}{o:HO}{xs:List V}(h:SqT K H q xs)(ha:H a=some (.ext φ)):SqT K (upd H a o) q xs:=by
 rcases h with (h|⟨u,h⟩)|h
 ·refine .inl (.inl ?_)
  rw[aP (fun z=>by rw[z,ha] at h;cases h)];exact h
 ·refine .inl (.inr ⟨u,?_⟩)
  rw[aP (fun z=>by rw[z,ha] at h;cases h)];exact h
 ·exact .inr h
theorem SqL.ext{K:Frag}{H:Hp}{a q:Addr}{φ:Heap->Prop}{o:HO}{xs:List V}(h:SqL K H q xs)(ha:H a=some (.ext φ)):SqL K (upd H a o) q xs:=by
 rcases h with (h|⟨u,h⟩)|h
 ·refine .inl (.inl ?_)
  rw[aP (fun z=>by rw[z,ha] at h;cases h)];exact h
 ·refine .inl (.inr ⟨u,?_⟩)
  rw[aP (fun z=>by rw[z,ha] at h;cases h)];exact h
 ·exact .inr h
mutual
theorem DatV.ext{K:Frag}{H:Hp}{a:Addr}{φ:Heap->Prop}{o:HO}(ha:H a=some (.ext φ)):∀ {x:V} {d:PyData},DatV K H x d->DatV K (upd H a o) x d
 | _,_,.non=>.non
 | _,_,.bl b=>.bl b
 | _,_,.int i=>.int i
 | _,_,.str x=>.str x
 | _,_,.lst h ds=>.lst (h.ext ha) (DatVs.ext ha ds)
 | _,_,.tup h ds=>.tup (h.ext ha) (DatVs.ext ha ds)
theorem DatVs.ext{K:Frag}{H:Hp}{a:Addr}{φ:Heap->Prop}{o:HO}(ha:H a=some (.ext φ)):∀ {xs:List V} {ds:List PyData},DatVs K H xs ds->DatVs K (upd H a o) xs ds
 | _,_,.nil=>.nil
 | _,_,.cons h t=>.cons (DatV.ext ha h) (DatVs.ext ha t)
end
theorem oF.ext{K:Frag}{H:Hp}{a:Addr}{φ:Heap->Prop}{o:HO}{ks:List (List Key×Addr)}(h:oF K H ks)(ha:H a=some (.ext φ)):oF K (upd H a o) ks:=fun p hp=>SqT.ext (h p hp) ha
end L2
namespace Mc
open PySem L2 PyProof.Rows
def Tn.good(n:Int):Tn->Prop
 | .n i=>0<=i/\i < n
 | .w x=>x="by"\/x="out"
def tE(n:Int)(c:Int×Int):Prop:=0<=c.1/\c.1 < n/\(c.2=1\/c.2 = -1)
def Rw.good(n:Int)(r:Rw):Prop:=r.l.good n/\r.r.good n/\∀ c∈r.c,tE n c
theorem Tn.good.ok{n:Int}{t:Tn}(h:t.good n):t.ok:=by
 cases t with
 | n i=>trivial
 | w x=>
  rcases h with rfl|rfl
  · exact (show PyData.strOk _ = true by decide +kernel)
  · exact (show PyData.strOk _ = true by decide +kernel)
theorem Rw.good.ok{n:Int}{r:Rw}(h:r.good n):r.ok:=⟨h.1.ok,h.2.1.ok⟩
structure Mach(rs:List Rw)(sg:Nat):Prop where
 len:1<=rs.length
 len2:rs.length<=1000
 sg1:1<=sg
 sg3:sg<=3
 row:∀ r∈rs,r.good rs.length/\r.c.length=sg
def c7(sg:Nat)(z:List Nat):Prop:=z.length<=1000/\∀ c∈z,eJ sg c=true
theorem zR{sg:Nat}:∀ {z:List Nat} {i:Nat},(∀ c∈z,eJ sg c=true)->lC sg i z=none
 | [],_,_=>rfl
 | c::t,i,h=>by
  rw[uG,if_pos (h c (by simp))]
  exact zR fun x hx=>h x (by simp[hx])
noncomputable def dQ(rs:List Rw)(q:Int):Rw:=rs.getD q.toNat ⟨.n 0,[],.n 0⟩
noncomputable def b6(rs:List Rw)(z:List Nat)(st:Int×Int):Tn×Int:=
 if st.1=0 then ((dQ rs st.2).l,1) else if st.1=(z.length:Int)+1 then ((dQ rs st.2).r,-1) else
  (.n ((dQ rs st.2).c.getD (z.getD (st.1.toNat - 1) 97 - 97) (0,0)).1,((dQ rs st.2).c.getD (z.getD (st.1.toNat - 1) 97 - 97) (0,0)).2)
def cP(rs:List Rw)(z:List Nat)(st:Int×Int):Option (Int×Int):=
 match (b6 rs z st).1 with
 | .w _=>none
 | .n q=>some (st.1+(b6 rs z st).2,q)
def fV(rs:List Rw)(z:List Nat)(st:Int×Int):Prop:=0<=st.1/\st.1<=(z.length:Int)+1/\0<=st.2/\st.2 < (rs.length:Int)
theorem nK{rs:List Rw}{q:Int}(h0:0<=q)(h1:q < rs.length):rs[q.toNat]? = some (dQ rs q):=by
 have h:q.toNat < rs.length:=by omega
 unfold dQ
 rw[List.getD_eq_getElem?_getD,List.getElem?_eq_getElem h];rfl
theorem vZ{rs:List Rw}{sg:Nat}{z:List Nat}{st:Int×Int}(S:c7 sg z)(V:fV rs z st)(h0:st.1≠0)(h1:st.1≠(z.length:Int)+1):∃ c,z[st.1.toNat - 1]? = some c/\eJ sg c=true/\z.getD (st.1.toNat - 1) 97=c:=by
 obtain ⟨a,b,_,_⟩:=V
 have hl:st.1.toNat - 1 < z.length:=by omega
 refine ⟨z[st.1.toNat - 1],by simp[hl],S.2 _ (List.getElem_mem hl),by rw[List.getD_eq_getElem?_getD,List.getElem?_eq_getElem hl];rfl⟩
theorem oZ{rs:List Rw}{sg:Nat}{z:List Nat}{st:Int×Int}(M:Mach rs sg)(S:c7 sg z)(V:fV rs z st)(h0:st.1≠0)(h1:st.1≠(z.length:Int)+1) :
  ∃ c,(dQ rs st.2).c[z.getD (st.1.toNat - 1) 97 - 97]? = some c/\(dQ rs st.2).c.getD (z.getD (st.1.toNat - 1) 97 - 97) (0,0)=c/\tE rs.length c:=by
 obtain ⟨c,_,hs,e⟩:=vZ S V h0 h1
 rw[e]
 have hs:=of_decide_eq_true hs
 have hr:=M.row _ (List.mem_of_getElem? (nK V.2.2.1 V.2.2.2))
 have hl:c - 97 < (dQ rs st.2).c.length:=by rw[hr.2];omega
 refine ⟨(dQ rs st.2).c[c - 97],by simp[hl],by rw[List.getD_eq_getElem?_getD,List.getElem?_eq_getElem hl];rfl,hr.1.2.2 _ (List.getElem_mem hl)⟩
theorem uH{rs:List Rw}{sg:Nat}{z:List Nat}{st st':Int×Int}(M:Mach rs sg)(S:c7 sg z)(V:fV rs z st)(h:cP rs z st=some st'):fV rs z st':=by
 have hr:=M.row _ (List.mem_of_getElem? (nK V.2.2.1 V.2.2.2))
 obtain ⟨a,b,c,d⟩:=id V
 unfold cP b6 at h
 by_cases h0:st.1=0
 ·simp only[if_pos h0] at h
  have g:=hr.1.1
  cases e:(dQ rs st.2).l with
  | w x=>rw[e] at h;cases h
  | n q=>
   rw[e] at h g
   cases h
   exact ⟨by show 0<=st.1+1;omega,by show st.1+1<=_;omega,g.1,g.2⟩
 ·by_cases h1:st.1=(z.length:Int)+1
  ·simp only[if_neg h0,if_pos h1] at h
   have g:=hr.1.2.1
   cases e:(dQ rs st.2).r with
   | w x=>rw[e] at h;cases h
   | n q=>
    rw[e] at h g
    cases h
    exact ⟨by show 0<=st.1 + -1;omega,by show st.1 + -1<=_;omega,g.1,g.2⟩
  ·obtain ⟨cc,_,e,g⟩:=oZ M S V h0 h1
   simp only[if_neg h0,if_neg h1] at h
   rw[e] at h
   cases h
   obtain ⟨g1,g2,g3⟩:=g
   refine ⟨?_,?_,g1,g2⟩
   ·show 0<=st.1+cc.2;rcases g3 with g3|g3<;>omega
   ·show st.1+cc.2<=_;rcases g3 with g3|g3<;>omega
theorem xF:∀ (N:Nat) (l:List Nat),l.Nodup->(∀ x∈l,x < N)->l.length<=N
 | 0,l,_,h=>by
  cases l with
  | nil=>exact Nat.le_refl _
  | cons a t=>exact absurd (h a (by simp)) (by omega)
 | N+1,l,hn,h=>by
  have ih:=xF N (l.erase N) (hn.erase N) (fun x hx=>by
   have:=(hn.mem_erase_iff).mp hx
   have h2:=h x this.2
   omega)
  have:=List.length_erase (a:=N) (l:=l)
  split at this<;>omega
theorem aDX{rs:List Rw}{z:List Nat}{l:List (Int×Int)}(hn:l.Nodup)(hv:∀ st∈l,fV rs z st):l.length<=(z.length+2) * rs.length:=by
 have h:=xF ((z.length+2) * rs.length) (l.map fun st=>st.1.toNat * rs.length+st.2.toNat) ?_ ?_
 ·rw[List.length_map] at h;exact h
 ·unfold List.Nodup
  rw[List.pairwise_map]
  refine List.Pairwise.imp_of_mem (fun {a b} ha hb hab e=>hab ?_) hn
  obtain ⟨a1,a2,a3,a4⟩:=hv a ha
  obtain ⟨b1,b2,b3,b4⟩:=hv b hb
  have hm:0 < rs.length:=by omega
  have e1:(a.1.toNat * rs.length+a.2.toNat) / rs.length=(b.1.toNat * rs.length+b.2.toNat) / rs.length:=by rw[e]
  have e2:(a.1.toNat * rs.length+a.2.toNat) % rs.length=(b.1.toNat * rs.length+b.2.toNat) % rs.length:=by rw[e]
  have ha2:a.2.toNat < rs.length:=by omega
  have hb2:b.2.toNat < rs.length:=by omega
  rw[Nat.mul_comm,Nat.mul_add_div hm,Nat.mul_comm b.1.toNat,Nat.mul_add_div hm,Nat.div_eq_of_lt ha2,Nat.div_eq_of_lt hb2] at e1
  rw[Nat.mul_comm,Nat.mul_add_mod,Nat.mul_comm b.1.toNat,Nat.mul_add_mod,Nat.mod_eq_of_lt ha2,Nat.mod_eq_of_lt hb2] at e2
  exact Prod.ext (by omega) (by omega)
 ·intro x hx
  obtain ⟨st,hst,rfl⟩:=List.mem_map.mp hx
  obtain ⟨a1,a2,a3,a4⟩:=hv st hst
  have h1:st.1.toNat+1<=z.length+2:=by omega
  have h2:st.2.toNat < rs.length:=by omega
  calc st.1.toNat * rs.length+st.2.toNat < st.1.toNat * rs.length+rs.length:=by omega
   _=(st.1.toNat+1) * rs.length:=by rw[Nat.add_mul];omega
   _<=(z.length+2) * rs.length:=Nat.mul_le_mul_right _ h1
noncomputable def rQ(rs:List Rw)(z:List Nat):Nat->List (Int×Int)->Int×Int->List (Int×Int)
 | 0,ps,st=>ps++[st]
 | k+1,ps,st=>if st∈ps then ps++[st] else match cP rs z st with
  | none=>ps++[st]
  | some st'=>rQ rs z k (ps++[st]) st'
def j9(rs:List Rw)(z:List Nat):Nat:=(z.length+2) * rs.length
def eK(rs:List Rw)(z:List Nat):List (Int×Int):=rQ rs z (j9 rs z) [] (0,0)
structure Way(rs:List Rw)(z:List Nat)(ps:List (Int×Int))(st:Int×Int)(k:Nat):Prop where
 nd:ps.Nodup
 val:∀ s∈ps++[st],fV rs z s
 num:ps.length+k=j9 rs z
 res:rQ rs z k ps st=eK rs z
theorem Way.start{rs:List Rw}{sg:Nat}{z:List Nat}(M:Mach rs sg):Way rs z [] (0,0) (j9 rs z) where
 nd:=List.nodup_nil
 val:=fun s hs=>by
  obtain rfl:s=(0,0):=by simpa using hs
  have:=M.len
  exact ⟨Int.le_refl _,by show (0:Int)<=_;omega,Int.le_refl _,by show (0:Int) < _;omega⟩
 num:=by simp
 res:=rfl
theorem Way.here{rs:List Rw}{z:List Nat}{ps:List (Int×Int)}{st:Int×Int}{k:Nat}(W:Way rs z ps st k):fV rs z st:=W.val st (by simp)
theorem Way.stop{rs:List Rw}{z:List Nat}{ps:List (Int×Int)}{st:Int×Int}{k:Nat}(W:Way rs z ps st k)(h:st∈ps):ps++[st]=eK rs z:=by
 rw[<-W.res]
 cases k with
 | zero=>rfl
 | succ k=>unfold rQ;rw[if_pos h]
theorem Way.more{rs:List Rw}{z:List Nat}{ps:List (Int×Int)}{st:Int×Int}{k:Nat}(W:Way rs z ps st k)(h:st∉ps):∃ j,k=j+1:=by
 have hn:(ps++[st]).Nodup:=by
  rw[List.nodup_append]
  exact ⟨W.nd,by simp,fun a ha b hb e=>by rw[List.mem_singleton.mp hb] at e;exact h (e▸ha)⟩
 have:=aDX hn W.val
 rw[List.length_append] at this
 have hk:=W.num
 unfold j9 at hk
 simp only[List.length_cons,List.length_nil] at this
 exact ⟨k - 1,by omega⟩
theorem Way.ends{rs:List Rw}{z:List Nat}{ps:List (Int×Int)}{st:Int×Int}{k:Nat}(W:Way rs z ps st k)(h:st∉ps)(e:cP rs z st=none):ps++[st]=eK rs z:=by
 obtain ⟨j,rfl⟩:=W.more h
 rw[<-W.res]
 unfold rQ
 rw[if_neg h,e]
theorem Way.next{rs:List Rw}{sg:Nat}{z:List Nat}{ps:List (Int×Int)}{st st':Int×Int}{k:Nat}(M:Mach rs sg)(S:c7 sg z)(W:Way rs z ps st (k+1))(h:st∉ps)(e:cP rs z st=some st'):Way rs z (ps++[st]) st' k where
 nd:=by
  rw[List.nodup_append]
  exact ⟨W.nd,by simp,fun a ha b hb e=>by rw[List.mem_singleton.mp hb] at e;exact h (e▸ha)⟩
 val:=fun s hs=>by
  rcases List.mem_append.mp hs with q|q
  · exact W.val s q
  · rw [List.mem_singleton.mp q]; exact uH M S W.here e
 num:=by rw[List.length_append];have:=W.num;simp;omega
 res:=by
  rw[<-W.res]
  conv=>rhs;unfold rQ
  rw[if_neg h,e]
end Mc
namespace L2
open PySem PySem.Spec PyProof.Rows
theorem oG:∀ {ys:List Str} {us:List Value},bJ (ys.map V.str) us->StrsAre us ys
 | [],_,.nil=>.nil
 | y::ys,_,.cons r t=>by obtain ⟨t',rfl⟩:=r;exact .cons y t' (oG t)
def aI9(K:Frag):V->List V->Hp->VK->Prop:=fun x vs H Q=>∃ (sep:Str) (a:Addr) (ys:List Str),x=.str sep/\vs=[.ref a]/\SqL K H a (ys.map V.str)/\(ys.map fun y=>y.length).sum+ys.length * sep.length<=16777216/\Q (.str (Txt.join sep ys)) H
theorem aKD{X:Cx}:MtR X "str.join" (aI9 X.K):=by
 intro pins s σ H x vs v us Q I rx rv h
 obtain ⟨sep,a,ys,rfl,rfl,ha,hz,q⟩:=h
 obtain ⟨t,rfl⟩:=rx
 obtain ⟨u,rfl,ru⟩:=rv.one
 cases (show u=Value.ref a from ru)
 obtain ⟨its,r,pl,_⟩:=I.list ha
 exact join_list (items:=its.toArray) pl.isList (by simpa using oG r) hz fun t' k=>⟨.str _,H,I.tok _,⟨_,rfl⟩,q⟩
end L2
namespace Mc
open PySem L2 PyProof.Rows
noncomputable def one(c:Nat):Str:=⟨#[c]⟩
theorem aFJ(cs:List Nat):∀ (a:Array Nat),(List.foldl (fun acc p=>acc++("":Str).cps++p.cps) a (cs.map one)).toList=a.toList++cs:=by
 induction cs with
 | nil=>intro a;simp
 | cons c t ih=>
  intro a
  rw[List.map_cons,List.foldl_cons,ih]
  have:("":Str).cps = #[]:=rfl
  rw[this]
  simp[one]
theorem aHI(cs:List Nat):(Txt.join "" (cs.map one)).cps.toList=cs:=by
 unfold Txt.join Builtin.Str.glued
 cases cs with
 | nil=>rfl
 | cons c t=>
  show (List.foldl _ (one c).cps (t.map one)).toList=_
  rw[aFJ];rfl
theorem aKE(cs:List Nat):((cs.map one).map fun y=>y.length).sum=cs.length:=by
 induction cs with
 | nil=>rfl
 | cons c t ih=>rw[List.map_cons,List.map_cons,List.sum_cons,ih,List.length_cons];show 1+_=_;omega
theorem aKF{x y:Str}(h:x.cps.toList=y.cps.toList):x=y:=by
 cases x;cases y
 simp only[Str.mk.injEq]
 exact Array.toList_inj.mp h
theorem aKG(cs:List Nat):Txt.join "" (cs.map one)=⟨cs.toArray⟩:=aKF (by rw[aHI])
theorem aKH{k:Int}{sg:Nat}(h1:1<=sg)(h3:sg<=3):∃ c,atI ("abc":Str).cps.toList (k % (sg:Int))=some c/\eJ sg c=true:=by
 have h0:=Int.emod_nonneg k (show (sg:Int)≠0 by omega)
 have h2:=Int.emod_lt_of_pos k (show (0:Int) < sg by omega)
 obtain ⟨j,hj⟩:∃ j:Nat,k % (sg:Int)=j:=⟨(k % (sg:Int)).toNat,by omega⟩
 rw[hj] at h0 h2 ⊢
 refine ⟨97+j,?_,decide_eq_true (by omega)⟩
 obtain rfl|rfl|rfl:j=0\/j=1\/j=2:=by omega
 all_goals decide +kernel
end Mc
namespace Mc
open PySem L2 PyProof.Rows
section
variable{S O:Type}
inductive Ex(st:S->Option (S⊕O)):Nat->S->O->Prop
 | out {s:S} {o:O} (h:st s=some (.inr o)):Ex st 0 s o
 | go {s s':S} {o:O} {n:Nat} (h:st s=some (.inl s')) (t:Ex st n s' o):Ex st (n+1) s o
inductive Rc(st:S->Option (S⊕O)):Nat->S->S->Prop
 | nil {s:S}:Rc st 0 s s
 | cons {s s' s'':S} {n:Nat} (h:st s=some (.inl s')) (t:Rc st n s' s''):Rc st (n+1) s s''
variable{st:S->Option (S⊕O)}
theorem Ex.det{n n':Nat}{s:S}{o o':O}(a:Ex st n s o)(b:Ex st n' s o'):n=n'/\o=o':=by
 induction a generalizing n' o' with
 | out h=>
  cases b with
  | out h'=>rw[h] at h';cases h';exact ⟨rfl,rfl⟩
  | go h' t=>rw[h] at h';cases h'
 | go h t ih=>
  cases b with
  | out h'=>rw[h] at h';cases h'
  | go h' t'=>
   rw[h] at h';cases h'
   obtain ⟨e,e'⟩:=ih t'
   exact ⟨by omega,e'⟩
theorem Rc.ex{k n:Nat}{s s':S}{o:O}(a:Rc st k s s')(b:Ex st n s o):∃ n',n=n'+k/\Ex st n' s' o:=by
 induction a generalizing n with
 | nil=>exact ⟨n,rfl,b⟩
 | cons h t ih=>
  cases b with
  | out h'=>rw[h] at h';cases h'
  | go h' t'=>
   rw[h] at h';cases h'
   obtain ⟨n',e,q⟩:=ih t'
   exact ⟨n',by omega,q⟩
theorem Rc.snoc{k:Nat}{s s' s'':S}(a:Rc st k s s')(h:st s'=some (.inl s'')):Rc st (k+1) s s'':=by
 induction a with
 | nil=>exact .cons h .nil
 | cons h' t ih=>exact .cons h' (ih h)
theorem Rc.round{m n:Nat}{s:S}{o:O}(a:Rc st (m+1) s s):¬ Ex st n s o:=fun b=>by
 obtain ⟨n',e,q⟩:=a.ex b
 have:=(b.det q).1
 omega
def Res(st:S->Option (S⊕O))(s:S)(r:Option O):Prop:=∀ o,r=some o↔∃ n,Ex st n s o
theorem Res.det{s:S}{r r':Option O}(a:Res st s r)(b:Res st s r'):r=r':=by
 apply Option.ext
 intro o
 exact (a o).trans (b o).symm
theorem Res.out{s:S}{o:O}(h:st s=some (.inr o)):Res st s (some o):=fun o'=>by
 constructor
 · intro e; cases e; exact ⟨0, .out h⟩
 · rintro ⟨n, q⟩; rw [((Ex.out h).det q).2]
theorem Res.step{s s':S}{r:Option O}(h:st s=some (.inl s'))(a:Res st s' r):Res st s r:=fun o=>by
 rw[a o]
 constructor
 ·rintro ⟨n,q⟩;exact ⟨n+1,.go h q⟩
 ·rintro ⟨n,q⟩
  cases q with
  | out h'=>rw[h] at h';cases h'
  | go h' t=>rw[h] at h';cases h';exact ⟨_,t⟩
theorem Res.round{s:S}{m:Nat}(a:Rc st (m+1) s s):Res st s none:=fun o=>by
 constructor
 · intro e; cases e
 · rintro ⟨n, q⟩; exact absurd q a.round
open Classical in
noncomputable def nL(st:S->Option (S⊕O))(s:S):Option O:=if h:∃ o n,Ex st n s o then some h.choose else none
theorem aFK(st:S->Option (S⊕O))(s:S):Res st s (nL st s):=fun o=>by
 unfold nL
 by_cases h:∃ o n,Ex st n s o
 ·rw[dif_pos h]
  obtain ⟨n,q⟩:=h.choose_spec
  constructor
  · intro e; cases e; exact ⟨n, q⟩
  · rintro ⟨n', q'⟩; rw [(q.det q').2]
 ·rw[dif_neg h]
  constructor
  · intro e; cases e
  · rintro ⟨n, q⟩; exact absurd ⟨o, n, q⟩ h
theorem Res.eq{s:S}{r:Option O}(a:Res st s r):r=nL st s:=a.det (aFK st s)
structure Und2(st:S->Option (S⊕O))(s0:S)(ps:List S)(s:S):Prop where
 nd:ps.Nodup
 back:∀ p∈ps,∃ m,Rc st (m+1) p s
 res:∀ r,Res st s r->Res st s0 r
theorem Und2.start{s0:S}:Und2 st s0 [] s0:=⟨List.nodup_nil,fun p hp=>by simp at hp,fun r h=>h⟩
theorem Und2.next{s0 s s':S}{ps:List S}(U:Und2 st s0 ps s)(hn:s∉ps)(h:st s=some (.inl s')):Und2 st s0 (ps++[s]) s' where
 nd:=by
  rw[List.nodup_append]
  exact ⟨U.nd,by simp,fun a ha b hb e=>by rw[List.mem_singleton.mp hb] at e;exact hn (e▸ha)⟩
 back:=fun p hp=>by
  rcases List.mem_append.mp hp with q|q
  · obtain ⟨m, r⟩ := U.back p q; exact ⟨m + 1, r.snoc h⟩
  · rw [List.mem_singleton.mp q]; exact ⟨0, .cons h .nil⟩
 res:=fun r a=>U.res r (a.step h)
theorem Und2.met{s0 s:S}{ps:List S}(U:Und2 st s0 ps s)(h:s∈ps):nL st s0=none:=by
 obtain ⟨m,r⟩:=U.back s h
 exact ((U.res _ (Res.round r)).eq).symm
theorem Und2.outs{s0 s:S}{ps:List S}{o:O}(U:Und2 st s0 ps s)(h:st s=some (.inr o)):nL st s0=some o:=((U.res _ (Res.out h)).eq).symm
end
abbrev Th:=Option (Int×Int)
structure Tb where
 f:List Th
 a:List Th
def aFL(m:Nat):Th->Prop
 | none=>True
 | some (d,q)=>(d=1\/d = -1)/\0<=q/\q < (m:Int)
structure Tb.good(m:Nat)(t:Tb):Prop where
 lf:t.f.length=m
 la:t.a.length=m
 gf:∀ x∈t.f,aFL m x
 ga:∀ x∈t.a,aFL m x
end Mc
namespace Mc
open PySem L2 PyProof.Rows
end Mc
namespace L2
open PySem PySem.Spec PyProof.Rows
def Its(z:Str):It:=⟨fun i _=>i < z.cps.size,fun i H x H'=>H'=H/\∃ c,z.cps[i]? = some c/\x=.str ⟨#[c]⟩,fun i _=>i=z.cps.size⟩
theorem zS{P:Program}{w:World}{K:Frag}{tg:Expr}(z:Str)(t:Tok)(T:String)(hT:∀ A:Around,A.handled=none->∀ it,Walks P w A it [it] [it] z.cps.size (SignAt z) fun i h=>h.IsStrIter it T z t i)
  (hself:∀ (A:Around) (it:Addr) (i:Nat) (s:Shared) (Q E:Value->Shared->Prop),s.heap.IsStrIter it T z t i->Q (.ref it) s->wpAny (model P w) A (pyIter (.ref it)) Q E s)
  (hno:["enumerate","zip","dict_itemiterator","dict_reverseitemiterator","odict_iterator","itertools.zip_longest","itertools.pairwise"].contains T=false) (it:Addr):Turn P w K tg (Its z) [it] it (fun i h=>h.IsStrIter it T z t i) where
 mem:=by simp
 obj:=fun i h st b hb=>by
  obtain rfl:b=it:=by simpa using hb
  obtain ⟨o,e,c,d⟩:=st
  exact ⟨o,e,fun v z=>by rw[d] at z;cases z⟩
 keep:=fun i h h' st k=>by
  obtain ⟨o,e,c,d⟩:=st
  exact ⟨o,k it (by simp) o e,c,d⟩
 item:=by
  intro X hP hw hK hc i pins s σ H E I hf st hg
  subst hP hw hK
  obtain ⟨f0,f1,f2,f3,f4,f5⟩:=hf it (by simp)
  refine (hT X.A (I.ok.hd hc) it).item i s _ E hg st fun v h' tk hv st' kp=>?_
  obtain ⟨c,tc,hcc,rfl⟩:=hv
  have I1:Inv X pins σ H {s with heap:=h',toks:=tk}:=I.turned (t':=tk) (it:=it) (fun b o hb e=>kp b o (by simpa using hb) e) f0 f1 f3 f4 f5
  obtain ⟨o,e,cc,d⟩:=id st'
  exact ⟨_,rfl,yQ (s:={s with heap:=h',toks:=tk}) e cc d hno ⟨.str ⟨#[c]⟩,H,I1,⟨_,rfl⟩,⟨rfl,c,hcc,rfl⟩,st',fun b hb=>(hf b hb).1⟩⟩
 done:=by
  intro X hP hw hK hc i pins s σ H E I hf st hg
  subst hP hw hK
  obtain ⟨f0,f1,f2,f3,f4,f5⟩:=hf it (by simp)
  have hg:i=z.cps.size:=hg
  subst hg
  exact (hT X.A (I.ok.hd hc) it).done s _ E st fun h' tk kp=>⟨rfl,I.turned (t':=tk) (it:=it) (fun b o hb e=>kp b o (by simpa using hb) e) f0 f1 f3 f4 f5⟩
 self:=fun A i s Q E st h=>hself A it i s Q E st h
def aPW(te:TE):TI:=fun σ H R=>te σ H fun x H1=>∃ z,x=.str z/\R (Its z) H1
theorem aMV{X:Cx}{tg l:Expr}{tl:TE}(hl:PE X l tl):PI X tg l (aPW tl):=by
 intro pins s σ H R I h
 refine thn (hl pins s σ H _ I h) fun v s1 zz0=>?_
 obtain ⟨x,H1,I1,r1,q1⟩:=zz0
 obtain ⟨z,e,q⟩:=q1
 subst e
 obtain ⟨t,rfl⟩:=r1
 refine wpAny_pyIter_strU ?_
 have I2:Inv X pins σ H1 {s1 with heap:=s1.heap.push {cls:=.type (strIterType z),data:=.fields #[.str z t,.int 0 0]}}:=I1.kept (t':=s1.toks) fun b o e=>Heap.get?_push_of_some _ e
 have st:(s1.heap.push {cls:=.type (strIterType z),data:=.fields #[.str z t,.int 0 0]}).IsStrIter s1.heap.objs.size (strIterType z) z t 0:=⟨_,Heap.get?_push_size _ rfl,rfl,rfl⟩
 have fin:∀ b∈[s1.heap.objs.size],i6 X pins H1 b:=fun b hb=>by
  obtain rfl:=List.mem_singleton.mp hb
  exact I1.fpOk (Nat.le_refl _) (I1.hok.fresh (Nat.le_refl _))
 by_cases ha:(z.cps.all fun x=>decide (x < 128))=true
 ·have eT:strIterType z="str_ascii_iterator":=by unfold strIterType;rw[if_pos ha]
  rw[eT] at st I2 ⊢
  exact ⟨s1.heap.objs.size,[s1.heap.objs.size],_,_,H1,rfl,I2,zS z t "str_ascii_iterator" (fun A hA it=>Walks.strAscii hA it z t) (fun A it i s Q E st h=>wpAny_pyIter_striter_ascii st h) (by decide) _,st,fin,q⟩
 ·have eT:strIterType z="str_iterator":=by unfold strIterType;rw[if_neg ha]
  rw[eT] at st I2 ⊢
  exact ⟨s1.heap.objs.size,[s1.heap.objs.size],_,_,H1,rfl,I2,zS z t "str_iterator" (fun A hA it=>Walks.strWide hA it z t) (fun A it i s Q E st h=>wpAny_pyIter_striter_wide st h) (by decide) _,st,fin,q⟩
end L2
namespace L2
open PySem PySem.Spec PyProof.Rows
structure InK(env:Env)(s₀:Shared)(m cm:Str->Option Value)(s:Shared):Prop where
 ic:InCall s₀ env.locals m s
 cell:∀ n c,env.cells.lookup n=some c->s.heap.IsCell c (cm n)
 inj:∀ n n' c,env.cells.lookup n=some c->env.cells.lookup n'=some c->n=n'
 ne:∀ n c,env.cells.lookup n=some c->c≠env.locals
 up:∀ n c,env.kindOf n=some .cell->env.cells.lookup n=some c->env.locals < c
theorem qH{α:Type}{x:Str}{l:List (Str×α)}(h:∀ v,(x,v)∉l):l.lookup x=none:=by
 cases e:l.lookup x with
 | none=>rfl
 | some v=>exact absurd (PySem.mem_of_lookup e) (h v)
structure ClAt(h:Heap)(scope:Scope)(cl:List (Str×Addr))(cm:Str->Option Value):Prop where
 cell:∀ n c,cl.lookup n=some c->h.IsCell c (cm n)
 inj:∀ n n' c,cl.lookup n=some c->cl.lookup n'=some c->n=n'
 off:∀ y∈scope.names,y.2=.cell->cl.lookup y.1=none
end L2
namespace L2
open PySem PySem.Spec PyProof.Rows
def FnO(f:Addr)(o:Obj):HO:=.ext fun h=>h.get? f=some o
def aHJ(c:Addr)(o:Obj)(v:V):HO:=.frz o (.ext fun h=>∃ u,bS v u/\h.IsCell c (some u))
section
variable{P:Program}{w:World}{H:Hp}{h:Heap}
theorem FnO.ok{f:Addr}{o:Obj}(e:h.get? f=some o):cS P w H h f (FnO f o):=⟨e,⟨o,e⟩,fun h1 h2 q k=>k o q⟩
theorem aHJ.ok{c:Addr}{o:Obj}{v:V}{u:Value}(r:bS v u)(e:h.get? c=some o)(hd:o.data=.cell (some u)):cS P w H h c (aHJ c o v):=
 ⟨e,⟨u,r,o,e,hd⟩,⟨o,e⟩,fun h1 h2 ⟨u,r,o,ho,hd⟩ k=>⟨u,r,o,k o ho,hd⟩⟩
end
structure CloScope(N ps fr:List Str)(sc:Scope):Prop where
 kind:sc.kind=.function
 co:sc.isCoroutine=false
 gen:sc.isGenerator=false
 nd:N.Nodup
 pre:N.take (ps++fr).length=ps++fr
 par:∀ x∈ps,sc.names.lookup x=some .local\/sc.names.lookup x=some .cell
 cap:∀ x∈fr,sc.names.lookup x=some .free
 only:∀ y∈sc.names,y.2=.free->y.1∈fr
 off:∀ y∈sc.names,y.2=.cell->y.1∉fr
structure CapAt(H:Hp)(fr:List Str)(cl:List (Str×Addr))(vs:List V):Prop where
 len:vs.length=fr.length
 only:∀ n c,cl.lookup n=some c->n∈fr
 inj:∀ n n' c,cl.lookup n=some c->cl.lookup n'=some c->n=n'
 at':∀ (i:Nat) x v,fr[i]? = some x->vs[i]? = some v->∃ c o,cl.lookup x=some c/\H c=some (aHJ c o v)
noncomputable def aKI(fr:List Str)(cl:List (Str×Addr)):List Addr:=fr.filterMap fun x=>cl.lookup x
theorem CapAt.same{H H':Hp}{fr:List Str}{cl:List (Str×Addr)}{vs:List V}(a:CapAt H fr cl vs)(s:aR H H'):CapAt H' fr cl vs:=⟨a.len,a.only,a.inj,fun i x v h1 h2=>let ⟨c,o,e,q⟩:=a.at' i x v h1 h2;⟨c,o,e,s _ _ q⟩⟩
end L2
namespace L2
open PySem PySem.Spec PyProof.Rows
structure ClSt where
 name:Str
 qual:Str
 params:Arguments
 body:FuncBody
 scope:Scope
noncomputable def ClSt.fd(S:ClSt)(cl:List (Str×Addr))(doc pm:Value)(c:Addr)(ct:Value):FuncData:=
 {name:=S.name,qualname:=S.qual,params:=S.params,body:=S.body,scope:=S.scope,globals:=mainGlobals,closure:=cl,defaults:=.none,kwdefaults:=.none,doc:=doc,pyModule:=pm,annotations:=none,code:=.ref c,closureTuple:=ct,builtins:=builtinsNs}
abbrev ClSt.obj(S:ClSt)(cl:List (Str×Addr))(doc pm:Value)(c:Addr)(ct:Value):Obj:={cls:=.type "function",data:=.func (S.fd cl doc pm c ct)}
end L2
namespace L2
open PySem PySem.Spec PyProof.Rows
structure ClOf(cells:List (Str×Addr))(sc:Scope)(cl:List (Str×Addr)):Prop where
 of:∀ x c,cl.lookup x=some c->cells.lookup x=some c
 all:∀ x∈sc.names,x.2=.free->∃ c,cl.lookup x.1=some c
 only:∀ x c,cl.lookup x=some c->(x,NameKind.free)∈sc.names
structure Tb(mg:Str->Option Value)(base:Heap)(c0 P0:Addr):Prop where
 hd:PySem.W.CodeHd base c0 P0
 bt:∃ bm ob,mg "__builtins__"=some (.ref bm)/\bm≠builtinsNs/\base.get? bm=some ob/\ob.cls=.type "module"/\ob.dict=some builtinsNs/\ob.data=.plain
end L2
namespace L2
open PySem PySem.Spec PyProof.Rows
abbrev Cv:=List (Addr×Obj×V)
noncomputable def aPX(cv:Cv):List Addr:=cv.map (·.1)
structure PubRel(X:Cx)(σ:St)(H:Hp)(js:List Nat)(cv:Cv):Prop where
 at':∀ b o v,cv.lookup b=some (o,v)->∃ x j,j∈js/\X.N[j]? = some x/\X.env.cells.lookup x=some b/\σ[j]? = some (some v)
 all:∀ j∈js,∃ x c o v,X.N[j]? = some x/\X.env.cells.lookup x=some c/\σ[j]? = some (some v)/\cv.lookup c=some (o,v)
 free:∀ b∈aPX cv,H b=none
 inj:∀ x y c,X.env.cells.lookup x=some c->X.env.cells.lookup y=some c->x=y
end L2
namespace L2
open PySem PySem.Spec PyProof.Rows
end L2
namespace Fl
open PySem L2 PyProof.Rows
mutual
noncomputable def g7:PyData->Bool
 | .none=>true
 | .int _=>true
 | .str x=>PyData.strOk x
 | .tuple xs=>fW xs
 | _=>false
noncomputable def fW:List PyData->Bool
 | []=>true
 | x::t=>g7 x && fW t
end
mutual
noncomputable def iF(w:World):PyData->Int
 | .none=>reduceHash 0xFCA86420
 | .int i=>hashInt i
 | .str x=>hashStr w x
 | .tuple xs=>reduceHash (Builtin.Tuple.tupleHashOf (mB w xs))
 | _=>0
noncomputable def mB(w:World):List PyData->List Int
 | []=>[]
 | x::t=>iF w x::mB w t
end
mutual
noncomputable def gO:PyData->Nat
 | .tuple xs=>mH xs+1
 | _=>1
noncomputable def mH:List PyData->Nat
 | []=>0
 | x::t=>gO x+mH t
end
mutual
theorem rR:∀ {d:PyData},g7 d=true->d.canLay0=true
 | .none,_=>rfl
 | .int _,_=>rfl
 | .str x,h=>h
 | .tuple xs,h=>by
  have h':fW xs=true:=h
  exact zT h'
theorem zT:∀ {xs:List PyData},fW xs=true->PyData.canLayAll0 xs=true
 | [],_=>rfl
 | x::t,h=>by
  have h':(g7 x && fW t)=true:=h
  rw[Bool.and_eq_true] at h'
  show (x.canLay0 && PyData.canLayAll0 t)=true
  rw[rR h'.1,zT h'.2];rfl
end
mutual
theorem v3:∀ {d e:PyData},g7 d=true->g7 e=true->(PyData.eqv d e=true↔d=e)
 | .none,e,_,he=>by cases e<;>simp[PyData.eqv]<;>cases he
 | .int i,e,_,he=>by cases e<;>simp[PyData.eqv]<;>cases he
 | .str x,e,_,he=>by cases e<;>simp[PyData.eqv]<;>cases he
 | .tuple xs,e,hd,he=>by
  have hd':fW xs=true:=hd
  cases e with
  | tuple ys=>
   have he':fW ys=true:=he
   have:=zU hd' he'
   show PyData.eqvAll xs ys=true↔_
   rw[this]
   exact ⟨fun z=>by rw[z],fun z=>by cases z;rfl⟩
  | _=>simp[PyData.eqv]<;>cases he
theorem zU:∀ {xs ys:List PyData},fW xs=true->fW ys=true->(PyData.eqvAll xs ys=true↔xs=ys)
 | [],ys,_,_=>by cases ys<;>simp[PyData.eqvAll]
 | x::t,ys,hx,hy=>by
  have hx':(g7 x && fW t)=true:=hx
  rw[Bool.and_eq_true] at hx'
  cases ys with
  | nil=>simp[PyData.eqvAll]
  | cons y u=>
   have hy':(g7 y && fW u)=true:=hy
   rw[Bool.and_eq_true] at hy'
   rw[PyData.eqvAll,Bool.and_eq_true,v3 hx'.1 hy'.1,zU hx'.2 hy'.2]
   exact ⟨fun ⟨a,b⟩=>by rw[a,b],fun z=>by cases z;exact ⟨rfl,rfl⟩⟩
end
noncomputable instance decPyData:DecidableEq PyData:=fun a b=>Classical.propDecidable (a=b)
theorem aKJ{d e:PyData}(hd:g7 d=true)(he:g7 e=true):PyData.eqv d e=decide (d=e):=by
 by_cases h:d=e
 ·rw[decide_eq_true h,(v3 hd he).mpr h]
 ·rw[decide_eq_false h]
  cases q:PyData.eqv d e with
  | false=>rfl
  | true=>exact absurd ((v3 hd he).mp q) h
end Fl
namespace Fl
open PySem L2 PyProof.Rows
theorem aDY(xs:List PyData):gO (.tuple xs)=mH xs+1:=by rw[gO]
theorem xG(A:Around):A.in1.units=A.units+1:=rfl
def lN(prog:Program)(w:World)(E:Value->Shared->Prop)(d:PyData):Prop:=∀ (v:Value) (as:List Addr) (A:Around) (s:Shared) (Q:Int->Shared->Prop),g7 d=true->Reads s.heap v d as->A.units+d.depth < cLine->Q (iF w d) {s with toks:=s.toks+gO d}->
 wpAny (model prog w) A (pyHash v) Q E s
theorem aMW{prog:Program}{w:World}{E:Value->Shared->Prop}:∀ (xs:List PyData) (ih:∀ x∈xs,lN prog w E x) (vs:List Value) (as:List Addr) (A:Around) (s:Shared) (b:Array Int) (Q:Array Int->Shared->Prop),fW xs=true->ReadsAll s.heap vs xs as->A.units+PyData.depthAll xs < cLine->
  (∀ b',b'.toList=b.toList++mB w xs->Q b' {s with toks:=s.toks+mH xs})->
  wpAny (model prog w) A (forIn vs b fun x r=>do let h <-pyHash x;pure PUnit.unit;pure (ForInStep.yield (r.push h))) Q E s:=by
 intro xs
 induction xs with
 | nil=>
  intro ih vs as A s b Q _ x _ h
  cases x
  exact wpAny_pure (h b (by simp[mB]))
 | cons k xs ih0=>
  intro ih vs as A s b Q hk x hu h
  cases x with
  | @cons v vs _ _ as bs x1 x2=>
   have hk':(g7 k && fW xs)=true:=hk
   rw[Bool.and_eq_true] at hk'
   have hu':A.units+max k.depth (PyData.depthAll xs) < cLine:=hu
   rw[List.forIn_cons]
   refine wpAny_bind (wpAny_bind (ih k List.mem_cons_self _ _ A s _ hk'.1 x1 (by omega) ?_))
   refine wpAny_bind (wpAny_pure (wpAny_pure ?_))
   refine ih0 (fun x hx=>ih x (List.mem_cons_of_mem _ hx)) _ _ A {s with toks:=s.toks+gO k} _ Q hk'.2 x2 (by omega) fun b' hb=>?_
   have q:=h b' (by rw[hb];simp[mB])
   rw[show mH (k::xs)=gO k+mH xs by rw[mH],<-Nat.add_assoc] at q
   exact q
end Fl
namespace Fl
open PySem L2 PyProof.Rows
theorem xH(w:World)(i:Int):iF w (.int i)=hashInt i:=by rw[iF]
theorem xI(w:World)(i:Str):iF w (.str i)=hashStr w i:=by rw[iF]
theorem aFM(w:World)(xs:List PyData):iF w (.tuple xs)=reduceHash (Builtin.Tuple.tupleHashOf (mB w xs)):=by rw[iF]
theorem aDZ(i:Int):gO (.int i)=1:=by unfold gO;rfl
theorem aD0(i:Str):gO (.str i)=1:=by unfold gO;rfl
theorem aHK{prog:Program}{w:World}{E:Value->Shared->Prop}(i:Int):lN prog w E (.int i):=fun v as A s Q _ r _ h=>by
 rw[xH,aDZ] at h
 cases r
 exact wpAny_pyHash_int h
theorem aHL{prog:Program}{w:World}{E:Value->Shared->Prop}(i:Str):lN prog w E (.str i):=fun v as A s Q _ r _ h=>by
 rw[xI,aD0] at h
 cases r
 exact wpAny_pyHash_str h
theorem aHM{prog:Program}{w:World}{E:Value->Shared->Prop}(xs:List PyData)(ih:∀ x∈xs,lN prog w E x):lN prog w E (.tuple xs):=fun v as A s Q hk r hu h=>by
 rw[aFM,aDY] at h
 cases r with
 | @tuple a o vs n _ as h1 h2 h3 h4=>
  have hk':fW xs=true:=hk
  have hu':A.units+(PyData.depthAll xs+1) < cLine:=hu
  refine PySem.W.pyHash_slot (T:="tuple") ⟨o,h1,h2⟩ F.slot_tuple_hash F.entry_tuple_hash (F.args_tuple_hash_1 _) (beq_builtin_none _) (.inr (by omega)) ?_
  show wpAny _ _ (Builtin.Tuple.tupleItemsOf (.ref a) >>= _) _ _ s
  refine wpAny_bind (wpAny_tupleItemsOf h1 h3 ?_)
  refine wpAny_bind ?_
  rw[<-Array.forIn_toList]
  refine aMW xs ih vs.toList as A.in1 s #[] _ hk' h4 (by rw[xG];omega) fun b hb=>?_
  show wpAny _ _ (retInt (Builtin.Tuple.tupleHashOf b.toList)) _ _ _
  rw[hb]
  exact wpAny_bind (wpAny_mkInt (wpAny_pure ⟨_,_,rfl,h⟩))
end Fl
namespace Fl
open PySem L2 PyProof.Rows
theorem aD1(w:World):iF w .none=reduceHash 0xFCA86420:=by rw[iF]
theorem aBT:gO .none=1:=by unfold gO;rfl
theorem aHN{prog:Program}{w:World}{E:Value->Shared->Prop}:lN prog w E .none:=fun v as A s Q _ r hu h=>by
 rw[aD1,aBT] at h
 generalize hg:reduceHash 0xFCA86420=g at h
 cases r
 refine PySem.W.pyHash_slot (T:="NoneType") rfl F.slot_NoneType_hash F.entry_NoneType_hash (F.args_NoneType_hash_1 _) (beq_builtin_none _) (.inr (by omega)) (wpAny_bind (wpAny_pure (wpAny_bind (wpAny_mkInt (wpAny_pure ⟨0xFCA86420,_,rfl,?_⟩)))))
 rw[hg]
 exact h
end Fl
namespace Fl
open PySem L2 PyProof.Rows
theorem aMX{prog:Program}{w:World}{E:Value->Shared->Prop}:∀ (n:Nat) (d:PyData),sizeOf d<=n->lN prog w E d:=by
 intro n
 induction n with
 | zero=>intro d h;cases d<;>simp at h
 | succ n ih=>
  intro d h
  cases d with
  | none=>exact aHN
  | int i=>exact aHK i
  | str x=>exact aHL x
  | tuple xs=>
   refine aHM xs fun x hx=>ih x ?_
   have:=List.sizeOf_lt_of_mem hx
   simp only[PyData.tuple.sizeOf_spec] at h
   omega
  | bool b=>exact fun v as A s Q hk=>nomatch hk
  | list xs=>exact fun v as A s Q hk=>nomatch hk
  | dict xs=>exact fun v as A s Q hk=>nomatch hk
theorem aMY{prog:Program}{w:World}{E:Value->Shared->Prop}(d:PyData):lN prog w E d:=aMX (sizeOf d) d (Nat.le_refl _)
theorem aKK{M:Model}{A:Around}{E:Value->Shared->Prop}{s:Shared}:∀ (n:Nat) (d:PyData) (v:Value) (as:List Addr) (Q:Bool->Shared->Prop),g7 d=true->Reads s.heap v d as->d.depth<=n->Q true s->wpAny M A (eqIsQuiet n v) Q E s:=by
 intro n
 induction n with
 | zero=>
  intro d v as Q hk r hd h
  cases d with
  | none=>cases r;rw[eqIsQuiet_byValue _ rfl];exact wpAny_pure h
  | int i=>cases r;rw[eqIsQuiet_byValue _ rfl];exact wpAny_pure h
  | str x=>cases r;rw[eqIsQuiet_byValue _ rfl];exact wpAny_pure h
  | tuple xs=>
   have hd':PyData.depthAll xs+1<=0:=hd
   omega
  | bool b=>exact nomatch hk
  | list xs=>exact nomatch hk
  | dict xs=>exact nomatch hk
 | succ n ih=>
  intro d v as Q hk r hd h
  cases d with
  | none=>cases r;rw[eqIsQuiet_byValue _ rfl];exact wpAny_pure h
  | int i=>cases r;rw[eqIsQuiet_byValue _ rfl];exact wpAny_pure h
  | str x=>cases r;rw[eqIsQuiet_byValue _ rfl];exact wpAny_pure h
  | bool b=>exact nomatch hk
  | list xs=>exact nomatch hk
  | dict xs=>exact nomatch hk
  | tuple xs=>
   cases r with
   | @tuple a o vs m _ as h1 h2 h3 h4=>
    have hk':fW xs=true:=hk
    have hd':PyData.depthAll xs+1<=n+1:=hd
    have hT:s.TypeIs (.ref a) "tuple":=⟨o,h1,h2⟩
    unfold eqIsQuiet
    refine wpAny_bind (wpAny_specialOf hT F.slot_tuple_eq.lookup ?_)
    show wpAny _ _ (isInstance (.ref a) (.type "tuple") >>= _) _ _ s
    refine wpAny_bind (wpAny_isInstance hT isSubtype_tuple_tuple ?_)
    simp only[Bool.not_true,Bool.false_eq_true,if_false]
    refine wpAny_bind (wpAny_seqItems h1 h3 ?_)
    refine wpAny_bind ?_
    show wpAny _ _ (forIn vs _ _) _ _ s
    rw[<-Array.forIn_toList]
    refine wpAny_forIn_list _ (fun rest r s'=>r.1=none/\s'=s/\∃ ys bs,fW ys=true/\PyData.depthAll ys<=n/\ReadsAll s.heap rest ys bs) _ ?_ ?_ _ _ ⟨rfl,rfl,xs,_,hk',by omega,h4⟩
    ·rintro v rest r s' ⟨hr,rfl,ys,bs,hy,hdy,ry⟩
     cases ry with
     | @cons _ _ y yt cs ds r1 r2=>
      have hy':(g7 y && fW yt)=true:=hy
      rw[Bool.and_eq_true] at hy'
      have hdy':max y.depth (PyData.depthAll yt)<=n:=hdy
      refine wpAny_bind (ih y v _ _ hy'.1 r1 (by omega) ?_)
      simp only[Bool.not_true,Bool.false_eq_true,if_false]
      exact wpAny_pure ⟨rfl,rfl,yt,_,hy'.2,by omega,r2⟩
    ·rintro ⟨r1,r2⟩ s' ⟨hr,rfl,_⟩
     simp only at hr
     subst hr
     exact wpAny_pure h
def aPY(h:Heap)(d:PyData)(a:Addr):Prop:=g7 d=true/\d.depth<=8/\∃ as,Reads h (.ref a) d as
theorem aD2{h h':Heap}{a:Addr}{o:Obj}{es:Array DictEntry}{ep:Nat}(ho:h.get? a=some o)(hd:o.data=.dict es ep)(hs:Heap.SameBut a h h'){v:Value}{d:PyData}{as:List Addr}(hk:g7 d=true)(r:Reads h v d as):Reads h' v d as:=by
 refine Reads.rec (motive_1:=fun v d as _=>g7 d=true->Reads h' v d as) (motive_2:=fun vs xs as _=>fW xs=true->ReadsAll h' vs xs as) ?_ ?_ ?_ ?_ ?_ ?_ ?_ ?_ ?_ r hk
 ·exact fun _=>.none
 ·intro b hk;cases hk
 ·exact fun i t _=>.int i t
 ·exact fun i t _=>.str i t
 ·intro b o' vs n xs as h1 h2 h3 h4 ih hk;cases hk
 ·intro b o' vs n xs as h1 h2 h3 h4 ih hk
  exact .tuple ((hs.2 b (fun z=>by subst z;rw[ho] at h1;cases h1;rw[hd] at h3;cases h3)).trans h1) h2 h3 (ih hk)
 ·intro b o' es' n kvs as bs h1 h2 h3 h4 h5 i1 i2 hk;cases hk
 ·exact fun _=>.nil
 ·intro v vs d ds as bs r1 r2 i1 i2 hk
  exact .cons (i1 ((Bool.and_eq_true ..).mp hk).1) (i2 ((Bool.and_eq_true ..).mp hk).2)
noncomputable def kU(prog:Program)(w:World):HeapKind prog w PyData where
 is:=aPY
 hash:=iF w
 draws:=gO
 room:=fun A=>A.units+9 < cLine
 inj:=fun {h a x y} hx hy=>by
  obtain ⟨k1,_,as,r1⟩:=hx
  obtain ⟨k2,_,bs,r2⟩:=hy
  exact PySem.SeqAt.Reads.unique x y _ _ _ (rR k1) r1 r2
 keeps:=fun {h h' k a d o es ep} hx ho hd hs=>by
  obtain ⟨k1,k2,as,r1⟩:=hx
  exact ⟨k1,k2,as,aD2 ho hd hs k1 r1⟩
 pyHash:=fun {A E s k a Q} hu hk h=>by
  obtain ⟨k1,k2,as,r1⟩:=hk
  exact aMY k _ as A s Q k1 r1 (by omega) h
 eqBool:=fun {A E s x y a b Q} hu hx hy h=>by
  obtain ⟨k1,k2,as,r1⟩:=hx
  obtain ⟨l1,l2,bs,r2⟩:=hy
  refine PySem.SeqAt.eqAt_reads x y A s _ _ as bs r1 r2 (rR k1) (rR l1) ?_ prog w E Q ?_
  ·have:min x.depth y.depth<=8:=Nat.le_trans (Nat.min_le_left _ _) k2
   omega
  ·rw[aKJ k1 l1];exact h
 quiet:=fun {A E s k a Q} hk h=>by
  obtain ⟨k1,k2,as,r1⟩:=hk
  exact aKK 8 k _ as Q k1 r1 k2 h
end Fl
namespace Fl
open PySem L2 PyProof.Rows
abbrev Ent:=PyData×V×V
def rS(w:World)(p:Ent)(en:DictEntry):Prop:=en.hash=iF w p.1/\bS p.2.1 en.key/\bS p.2.2 en.val
def kA(w:World)(a:Addr)(es:List Ent)(ep:Nat):HO:=.ext fun h=>(a == sysModules)=false/\∃ o ar,h.get? a=some o/\o.ExactDict/\o.data=.dict ar ep/\Paired (rS w) es ar.toList
theorem v4{P:Program}{w:World}{H:Hp}{h:Heap}{a:Addr}{es:List Ent}{ep:Nat}(hd:(a == sysModules)=false)(hh:∃ o ar,h.get? a=some o/\o.ExactDict/\o.data=.dict ar ep/\Paired (rS w) es ar.toList):cS P w H h a (kA w a es ep):=
 ⟨⟨hd,hh⟩,let ⟨o,_,e,_⟩:=hh;⟨o,e⟩,fun h1 h2 ⟨q,o,es,e,r⟩ kp=>⟨q,o,es,kp _ e,r⟩⟩
noncomputable def v5:PyData->Bool
 | .tuple xs=>g7 (.tuple xs) && decide ((PyData.tuple xs).depth<=8)
 | _=>false
noncomputable def aHO:PyData->Bool
 | .int _=>true
 | .str _=>true
 | _=>false
def eW(k:PyData)(ks:List PyData):Bool:=(v5 k && ks.all v5) || (aHO k && ks.all aHO)
theorem aKL{d:PyData}(h:v5 d=true):∃ xs,d=.tuple xs/\g7 d=true/\d.depth<=8:=by
 cases d with
 | tuple xs=>
  have h':(g7 (.tuple xs) && decide ((PyData.tuple xs).depth<=8))=true:=h
  rw[Bool.and_eq_true] at h'
  exact ⟨xs,rfl,h'.1,of_decide_eq_true h'.2⟩
 | _=>cases h
def kB:Key->PyData
 | .inl i=>.int i
 | .inr x=>.str x
theorem aCC{d:PyData}(h:aHO d=true):∃ k,d=kB k:=by
 cases d with
 | int i=>exact ⟨.inl i,rfl⟩
 | str i=>exact ⟨.inr i,rfl⟩
 | _=>cases h
theorem xJ{a b:Key}(h:kB a=kB b):a=b:=by
 cases a<;>cases b<;>cases h<;>rfl
theorem aCD{K:Frag}{H:Hp}{v:V}{k:Key}(h:DatV K H v (kB k)):v=kV k:=by
 cases k with
 | inl i=>exact h.int_of
 | inr x=>exact h.str_of
theorem zV{P:Program}{w:World}(k:Key):iF w (kB k)=(eG P w).hash k:=by
 cases k with
 | inl i=>exact xH w i
 | inr x=>exact xI w x
def v7:Ent->(PyData×Addr×Value)->Prop:=fun e x=>e.1=x.1/\e.2.1=.ref x.2.1/\bS e.2.2 x.2.2
def v8:Ent->(Key×Value)->Prop:=fun e x=>e.1=kB x.1/\e.2.1=kV x.1/\bS e.2.2 x.2
theorem aFN{P:Program}{w:World}:∀ {es:List Ent} {ens:List DictEntry},Paired (rS w) es ens->(∀ e∈es,∃ b,e.2.1=.ref b)->∃ xs,ens=xs.map (entryOfKey (kU P w))/\Paired v7 es xs
 | _,_,.nil,_=>⟨[],rfl,.nil⟩
 | e::es,en::ens,.cons h t,hb=>by
  obtain ⟨xs,h1,h2⟩:=aFN (P:=P) t fun e he=>hb e (List.mem_cons_of_mem _ he)
  obtain ⟨b,hb'⟩:=hb e List.mem_cons_self
  obtain ⟨q1,q2,q3⟩:=h
  rw[hb'] at q2
  obtain ⟨hash,key,val⟩:=en
  have q2':key=Value.ref b:=q2
  have q1':hash=iF w e.1:=q1
  subst q2' q1'
  exact ⟨(e.1,b,val)::xs,by rw[List.map_cons,h1];rfl,.cons ⟨rfl,hb',q3⟩ h2⟩
theorem zW{P:Program}{w:World}:∀ {es:List Ent} {xs:List (PyData×Addr×Value)},Paired v7 es xs->Paired (rS w) es (xs.map (entryOfKey (kU P w)))
 | _,_,.nil=>.nil
 | _,_,.cons h t=>.cons ⟨by rw[h.1];rfl,by rw[h.2.1];rfl,h.2.2⟩ (zW t)
theorem aFO{P:Program}{w:World}:∀ {es:List Ent} {ens:List DictEntry},Paired (rS w) es ens->(∀ e∈es,∃ k,e.1=kB k/\e.2.1=kV k)->∃ xs,Pairs (eG P w) ens xs/\Paired v8 es xs/\∀ en∈ens,∃ k,(eG P w).is k en.key=true/\en.hash=(eG P w).hash k
 | _,_,.nil,_=>⟨[],.nil,.nil,fun _ h=>by cases h⟩
 | e::es,en::ens,.cons h t,hb=>by
  obtain ⟨xs,h1,h2,h3⟩:=aFO (P:=P) t fun e he=>hb e (List.mem_cons_of_mem _ he)
  obtain ⟨k,hk1,hk2⟩:=hb e List.mem_cons_self
  obtain ⟨q1,q2,q3⟩:=h
  have hi:(eG P w).is k en.key=true:=aI8 (by rw[<-hk2];exact q2)
  refine ⟨(k,en.val)::xs,.cons hi rfl h1,.cons ⟨hk1,hk2,q3⟩ h2,fun en' hen=>?_⟩
  rcases List.mem_cons.mp hen with z|z
  · subst z; exact ⟨k, hi, by rw [q1, hk1, zV (P := P)]⟩
  · exact h3 en' z
theorem aKM{P:Program}{w:World}{k:Key}{v:Value}(h:(eG P w).is k v=true):bS (kV k) v:=by
 rcases keyIs_shape h with ⟨i,t,rfl,rfl⟩|⟨x,t,rfl,rfl⟩
 · exact ⟨t, rfl⟩
 · exact ⟨t, rfl⟩
theorem zX{P:Program}{w:World}:∀ {es:List Ent} {xs:List (Key×Value)} {ens:List DictEntry},Paired v8 es xs->Pairs (eG P w) ens xs->(∀ en∈ens,∃ k,(eG P w).is k en.key=true/\en.hash=(eG P w).hash k)->Paired (rS w) es ens
 | _,_,_,.nil,.nil,_=>.nil
 | _,_,_,.cons h t,.cons p1 p2 ps,hk=>by
  obtain ⟨k,hk1,hk2⟩:=hk _ List.mem_cons_self
  obtain rfl:=(eG P w).inj _ _ _ hk1 p1
  refine .cons ⟨by rw[hk2,h.1,zV (P:=P)],by rw[h.2.1];exact aKM hk1,by rw[p2];exact h.2.2⟩ (zX t ps fun en he=>hk en (List.mem_cons_of_mem _ he))
noncomputable def atE(es:List Ent)(k:PyData):Option V:=(es.find? fun e=>decide (e.1=k)).map (·.2.2)
noncomputable def qI(es:List Ent)(k:PyData)(kv v:V):List Ent:=if (atE es k).isSome then es.map (fun e=>if e.1=k then (e.1,e.2.1,v) else e) else es++[(k,kv,v)]
theorem zY{k:PyData}:∀ {es:List Ent} {xs:List (PyData×Addr×Value)},Paired v7 es xs->gZ (atE es k) ((atKey xs k).map (·.2))
 | _,_,.nil=>trivial
 | e::es,x::xs,.cons h t=>by
  have ih:=zY (k:=k) t
  unfold atE atKey at ih ⊢
  rw[List.find?_cons,List.find?_cons,h.1]
  by_cases q:x.1=k
  · rw [decide_eq_true q]; exact h.2.2
  · rw [decide_eq_false q]; exact ih
theorem zZ{k:Key}:∀ {es:List Ent} {xs:List (Key×Value)},Paired v8 es xs->gZ (atE es (kB k)) (valueAt xs k)
 | _,_,.nil=>trivial
 | e::es,x::xs,.cons h t=>by
  have ih:=zZ (k:=k) t
  unfold atE valueAt at ih ⊢
  rw[List.find?_cons,List.find?_cons,h.1]
  by_cases q:x.1=k
  · rw [decide_eq_true q, decide_eq_true (by rw [q])]; exact h.2.2
  · rw [decide_eq_false q, decide_eq_false (fun z => q (xJ z))]; exact ih
theorem nM{o:Option V}{u:Option Value}(h:gZ o u):o.isSome=u.isSome:=by
 cases o<;>cases u<;>first|rfl|exact h.elim
theorem o0{α β:Type}{f:α->β->Prop}{g:α->α}{k:β->β}(hg:∀ a b,f a b->f (g a) (k b)):∀ {xs:List α} {ys:List β},Paired f xs ys->Paired f (xs.map g) (ys.map k)
 | _,_,.nil=>.nil
 | _,_,.cons h t=>.cons (hg _ _ h) (o0 hg t)
theorem o3{α β:Type}{f:α->β->Prop}{a:α}{b:β}(h:f a b):∀ {xs:List α} {ys:List β},Paired f xs ys->Paired f (xs++[a]) (ys++[b])
 | _,_,.nil=>.cons h .nil
 | _,_,.cons q t=>.cons q (o3 h t)
theorem aOQ{k:PyData}{b:Addr}{v:V}{u:Value}{es:List Ent}{xs:List (PyData×Addr×Value)}(r:bS v u)(h:Paired v7 es xs):Paired v7 (qI es k (.ref b) v) (storedH xs k b u):=by
 have q:=nM (zY (k:=k) h)
 rw[Option.isSome_map] at q
 unfold qI storedH
 rw[q]
 cases (atKey xs k).isSome with
 | true=>
  rw[if_pos rfl,if_pos rfl]
  refine o0 (fun e x hx=>?_) h
  unfold putAt
  rw[hx.1]
  by_cases z:x.1=k
  · rw [if_pos z, if_pos z]; exact ⟨rfl, hx.2.1, r⟩
  · rw [if_neg z, if_neg z]; exact hx
 | false=>rw[if_neg (by decide),if_neg (by decide)];exact o3 ⟨rfl,rfl,r⟩ h
theorem aJA{k:Key}:∀ {xs:List (Key×Value)},xs.any (fun kv=>decide (kv.1=k))=(valueAt xs k).isSome
 | []=>rfl
 | x::xs=>by
  have ih:=aJA (k:=k) (xs:=xs)
  unfold valueAt at ih ⊢
  rw[List.any_cons,List.find?_cons]
  by_cases q:x.1=k
  · rw [decide_eq_true q]; rfl
  · rw [decide_eq_false q, Bool.false_or]; exact ih
theorem aOR{k:Key}{v:V}{u:Value}{es:List Ent}{xs:List (Key×Value)}(r:bS v u)(h:Paired v8 es xs):Paired v8 (qI es (kB k) (kV k) v) (stored xs k u):=by
 have q:=nM (zZ (k:=k) h)
 unfold qI stored
 rw[q,aJA]
 cases (valueAt xs k).isSome with
 | true=>
  rw[if_pos rfl,if_pos rfl]
  refine o0 (fun e x hx=>?_) h
  by_cases z:x.1=k
  · rw [if_pos z, if_pos (by rw [hx.1, z])]; exact ⟨by rw [hx.1], hx.2.1, r⟩
  · rw [if_neg z, if_neg (fun y => z (xJ (hx.1.symm.trans y)))]; exact hx
 | false=>rw[if_neg (by decide),if_neg (by decide)];exact o3 ⟨rfl,rfl,r⟩ h
section
variable{X:Cx}{pins:List (Addr×Obj)}{σ:L2.St}{H:Hp}{s:Shared}{a:Addr}{es:List Ent}{k:PyData}{kv v:V}{ku u:Value}{A:Around}{E:Value->Shared->Prop}
structure DicAt(X:Cx)(H:Hp)(a:Addr)(es:List Ent)(k:PyData)(kv:V):Prop where
 o:∃ ep,H a=some (kA X.w a es ep)
 ks:∀ e∈es,DatV X.K H e.2.1 e.1
 nd:(es.map (·.1)).Nodup
 dk:DatV X.K H kv k
 one:eW k (es.map (·.1))=true
theorem uI{α β:Type}{f:α->β->Prop}{y:β}:∀ {xs:List α} {ys:List β},Paired f xs ys->y∈ys->∃ x,x∈xs/\f x y
 | _,_,.nil,h=>by cases h
 | _,_,.cons q t,h=>by
  rcases List.mem_cons.mp h with z|z
  ·subst z;exact ⟨_,List.mem_cons_self,q⟩
  ·obtain ⟨x,h1,h2⟩:=uI t z
   exact ⟨x,List.mem_cons_of_mem _ h1,h2⟩
theorem o4{α β γ:Type}{f:α->β->Prop}{g:α->γ}{k:β->γ}(h:∀ a b,f a b->g a=k b):∀ {xs:List α} {ys:List β},Paired f xs ys->xs.map g=ys.map k
 | _,_,.nil=>rfl
 | _,_,.cons q t=>by rw[List.map_cons,List.map_cons,h _ _ q,o4 h t]
theorem xK{α β:Type}{f:α->β}:∀ {xs:List α},(xs.map f).Nodup->xs.Nodup
 | [],_=>List.nodup_nil
 | x::t,h=>by
  rw[List.map_cons,List.nodup_cons] at h
  exact List.nodup_cons.mpr ⟨fun z=>h.1 (List.mem_map_of_mem z),xK h.2⟩
theorem DicAt.cases (D : DicAt X H a es k kv) (I : Inv X pins σ H s) (rk : bS kv ku) : (a == sysModules) = false /\
    ((∃ b xs, kv = .ref b /\ ku = .ref b /\ Paired v7 es xs /\ (kU X.prog X.w).is s.heap k b /\ s.heap.DictOfH (kU X.prog X.w) a xs) \/
     (∃ kk xs, k = kB kk /\ kv = kV kk /\ Paired v8 es xs /\ (eG X.prog X.w).is kk ku = true /\ s.heap.DictOf (eG X.prog X.w) a xs)) := by
  obtain ⟨ep, hO⟩ := D.o
  obtain ⟨⟨hd, o, ar, h1, h2, h3, h4⟩, _, _⟩ := (show cS X.prog X.w H s.heap a (kA X.w a es ep) from I.hok a _ hO)
  refine ⟨hd, ?_⟩
  have hone := D.one
  unfold eW at hone
  rw [Bool.or_eq_true, Bool.and_eq_true, Bool.and_eq_true, List.all_eq_true, List.all_eq_true] at hone
  rcases hone with ⟨hk, ha⟩ | ⟨hk, ha⟩
  · have key : ∀ (d : PyData) (v : V), v5 d = true -> DatV X.K H v d -> ∃ b', v = .ref b' /\ (kU X.prog X.w).is s.heap d b' := fun d v hd hv => by
      obtain ⟨ws, rfl, q1, q2⟩ := aKL hd
      obtain ⟨b', vs, rfl, _, _⟩ := hv.tup_of
      obtain ⟨as, r⟩ := hv.reads I (u := .ref b') rfl
      exact ⟨b', rfl, q1, q2, as, r⟩
    obtain ⟨b, rfl, hkb⟩ := key _ _ hk D.dk
    cases (show ku = Value.ref b from rk)
    obtain ⟨xs, hx1, hx2⟩ := aFN (P := X.prog) h4 fun e he => by
      obtain ⟨b', e1, _⟩ := key e.1 e.2.1 (ha _ (List.mem_map_of_mem he)) (D.ks e he)
      exact ⟨b', e1⟩
    refine .inl ⟨b, xs, rfl, rfl, hx2, hkb, o, ar, ep, h1, h2, h3, hx1, fun x hx => ?_, ?_⟩
    · obtain ⟨e, he, hex⟩ := uI hx2 hx
      obtain ⟨b', e1, q⟩ := key e.1 e.2.1 (ha _ (List.mem_map_of_mem he)) (D.ks e he)
      rw [hex.2.1] at e1
      cases e1
      rw [<- hex.1]; exact q
    · rw [<- o4 (g := fun e : Ent => e.1) (fun a b h => h.1) hx2]; exact D.nd
  · obtain ⟨kk, rfl⟩ := aCC hk
    have hkv := aCD D.dk
    obtain ⟨xs, hx1, hx2, hx3⟩ := aFO (P := X.prog) h4 fun e he => by
      obtain ⟨k', hk'⟩ := aCC (ha _ (List.mem_map_of_mem he))
      have q := D.ks e he
      rw [hk'] at q
      exact ⟨k', hk', aCD q⟩
    refine .inr ⟨kk, xs, rfl, hkv, hx2, aI8 (by rw [<- hkv]; exact rk), o, ar, ep, h1, h2, h3, fun en hen => hx3 en (by simpa using hen), hx1, ?_⟩
    have : es.map (·.1) = (xs.map (·.1)).map kB := by rw [List.map_map]; exact o4 (g := fun e : Ent => e.1) (fun a b h => h.1) hx2
    have nd := D.nd
    rw [this] at nd
    exact xK nd
theorem xL{A:Around}(hu:A.units+64 < cLine):(kU X.prog X.w).room A.in1:=by show A.in1.units+9 < cLine;rw[xG];omega
theorem aKN{Q:Value->Shared->Prop}(hu:A.units+64 < cLine)(D:DicAt X H a es k kv)(I:Inv X pins σ H s)(rk:bS kv ku)(h:∀ s',Inv X pins σ H s'->Q (.bool (!(atE es k).isSome)) s'):wpAny (model X.prog X.w) A (compareOp .NotIn ku (.ref a)) Q E s:=by
 obtain ⟨hd,⟨b,xs,rfl,rfl,hx,hk,dd⟩|⟨kk,xs,rfl,rfl,hx,hk,dd⟩⟩:=D.cases I rk
 ·refine wpAny_notIn_heap (xL hu) hk hd dd ?_
  have q:=nM (zY (k:=k) hx)
  rw[Option.isSome_map] at q
  rw[<-q];exact h _ (I.tok _)
 ·refine wpAny_notIn_of hk hd dd.mapOf ?_
  rw[<-nM (zZ (k:=kk) hx)];exact h _ (I.tok _)
theorem aKO{Q:Unit->Shared->Prop}(hu:A.units+64 < cLine)(D:DicAt X H a es k kv)(I:Inv X pins σ H s)(rk:bS kv ku)(rv:bS v u)(hz:es.length<=sizeLine)(h:∀ ep s',Inv X pins σ (upd H a (kA X.w a (qI es k kv v) ep)) s'->Q () s') :
  wpAny (model X.prog X.w) A (setItem (.ref a) ku u) Q E s:=by
 obtain ⟨hd,⟨b,xs,rfl,rfl,hx,hk,dd⟩|⟨kk,xs,rfl,rfl,hx,hk,dd⟩⟩:=D.cases I rk
 ·have hl:xs.length<=sizeLine:=by rw[<-Paired.length hx];exact hz
  refine wpAny_setItem_heap (hsz:=hl) (xL hu) hk dd fun h' dd' hs=>?_
  obtain ⟨q',ar,ep,hq,h2,h3,h4,_,h5⟩:=dd'
  obtain ⟨ep0,hO⟩:=D.o
  refine h ep _ (aCB I (by rw[hO];exact True.intro) hs ⟨q',hq⟩ (v4 hd ⟨q',ar,hq,h2,h3,?_⟩))
  rw[h4]
  exact zW (aOQ rv hx)
 ·have hl:xs.length<=sizeLine:=by rw[<-Paired.length hx];exact hz
  refine wpAny_setItem_pairs (hsz:=hl) hk dd fun h' dd' hs=>?_
  obtain ⟨q',ar,ep,hq,h2,h3,h4,h5,_⟩:=dd'
  obtain ⟨ep0,hO⟩:=D.o
  refine h ep _ (aCB I (by rw[hO];exact True.intro) hs ⟨q',hq⟩ (v4 hd ⟨q',ar,hq,h2,h3,?_⟩))
  exact zX (aOR rv hx) h5 fun en hen=>h4 en (by simpa using hen)
end
end Fl
namespace Fl
open PySem L2 PyProof.Rows
structure Er where
 c:Str
 fs:List (Str×PyData)
inductive R(α:Type) where
 | bad|ok (a:α)|ex (e:Er)
noncomputable def R.bind{α β:Type}:R α->(α->R β)->R β
 | .bad,_=>.bad
 | .ok a,f=>f a
 | .ex e,_=>.ex e
@[simp] theorem R.bind_ok{α β:Type}(a:α)(f:α->R β):(R.ok a).bind f=f a:=id rfl
@[simp] theorem R.bind_bad{α β:Type}(f:α->R β):(R.bad:R α).bind f=.bad:=id rfl
@[simp] theorem R.bind_ex{α β:Type}(e:Er)(f:α->R β):(R.ex e:R α).bind f=.ex e:=id rfl
inductive A where
 | d (x:PyData)|l (xs:List PyData)|m (kvs:List (PyData×PyData))|x (e:Er)|g (k n:Nat) (f:List PyData->R PyData)|k (q:Str)|f (kvs:List (PyData×PyData))|o (e:Er)
abbrev Sg:=List (Option A)
structure Gb where
 B:Addr->Hp->Nat->Nat->(List PyData->R PyData)->Prop
 T:Hp
 w:World
structure Ct where
 K:Frag
 mg:Str->Option Value
 w:World
 F0:Hp
 H0:Hp
 g:Gb
 cells:List (Str×Addr)
 cls:Str->Option ClSt
theorem z8{w:World}{p:Addr}{es:List Ent}{ep:Nat}{q:Str}(h:kA w p es ep=.cod q):False:=by unfold kA at h;cases h
theorem cQ(H:Hp):aR H H:=fun _ _ h=>h
theorem bT{H H':Hp}(s:aR H H'){a:Addr}(h:H' a=none):H a=none:=by
 cases e:H a with
 | none=>rfl
 | some o=>rw[s a o e] at h;cases h
def nN(H:Hp)(a:Addr):Prop:=H a=none\/∃ q,H a=some (.cod q)
theorem nN.back{H H1:Hp}{a:Addr}(s:aR H H1)(h:nN H1 a):nN H a:=by
 cases e:H a with
 | none=>exact .inl e
 | some o=>
  have e1:=s a o e
  rcases h with z|⟨q,z⟩
  · rw [e1] at z; cases z
  · rw [e1] at z; cases z; exact .inr ⟨q, e⟩
structure Ext(F H F' H':Hp):Prop where
 hh:aR H H'
 ff:aR F F'
 fh:aR F' H'
 nw:∀ a,F a=none->F' a≠none->nN H a
theorem Ext.refl{F H:Hp}(h:aR F H):Ext F H F H:=⟨cQ H,cQ F,h,fun a e n=>absurd e n⟩
theorem Ext.trans{F H F1 H1 F2 H2:Hp}(a:Ext F H F1 H1)(b:Ext F1 H1 F2 H2):Ext F H F2 H2:=
 ⟨fun x o e=>b.hh x o (a.hh x o e),fun x o e=>b.ff x o (a.ff x o e),b.fh,fun x e n=>by
  cases q:F1 x with
  | none=>exact (b.nw x q n).back a.hh
  | some o=>exact a.nw x e (by rw[q];exact fun z=>nomatch z)⟩
theorem Ext.stay{F H F' H':Hp}(s:Ext F H F' H'){p:Addr}{o:HO}(h3:F p=none)(h2:H p=some o)(hno:∀ q,o≠.cod q):F' p=none:=by
 cases q:F' p with
 | none=>rfl
 | some o=>
  rcases s.nw p h3 (by rw[q];exact fun z=>nomatch z) with z|⟨q',z⟩
  · rw [z] at h2; cases h2
  · rw [z] at h2; cases h2; exact absurd rfl (hno _)
theorem aHP{F H:Hp}{p:Addr}{o:HO}(s:aR F H):aR (upd F p o) (upd H p o):=fun a u e=>by
 by_cases q:a=p
 · subst q; rw [aY] at e ⊢; exact e
 · rw [aP q] at e ⊢; exact s a u e
theorem Ext.new{F H:Hp}{p:Addr}{o:HO}(s:aR F H)(hp:H p=none):Ext F H (upd F p o) (upd H p o):=
 ⟨aR.upd hp,aR.upd (bT s hp),aHP s,fun a e n=>by
  by_cases q:a=p
  · subst q; exact .inl hp
  · rw [aP q] at n; exact absurd e n⟩
theorem Ext.own{F H:Hp}{p:Addr}{o:HO}(s:aR F H)(hp:H p=none):Ext F H F (upd H p o):=
 ⟨aR.upd hp,cQ F,fun a u e=>by
  rw[aP (c6 (s a u e) hp)];exact s a u e,fun a e n=>absurd e n⟩
def o5(K:Frag)(mg:Str->Option Value)(F:Hp)(e:Er)(a C:Addr):Prop:=mg e.c=some (.ref C)/\∃ od,F a=some (ExO a C od)/\((e.fs=[]/\od=none)\/∃ d fvs,od=some d/\F d=some (.xd fvs)/\fvs.map (·.1)=e.fs.map (·.1)/\DatVs K F (fvs.map (·.2)) (e.fs.map (·.2)))
theorem o5.same{K:Frag}{mg:Str->Option Value}{F F':Hp}{e:Er}{a C:Addr}(s:aR F F')(h:o5 K mg F e a C):o5 K mg F' e a C:=by
 obtain ⟨m,od,h1,h2⟩:=h
 refine ⟨m,od,s _ _ h1,h2.imp id ?_⟩
 rintro ⟨d,fvs,e1,e2,e3,e4⟩
 exact ⟨d,fvs,e1,s _ _ e2,e3,e4.same s⟩
def aD3(K:Frag)(mg:Str->Option Value)(F:Hp)(e:Er)(a:Addr):Prop:=∃ C dx fvs,mg e.c=some (.ref C)/\F a=some (.ins C dx fvs)/\fvs.map (·.1)=e.fs.map (·.1)/\DatVs K F (fvs.map (·.2)) (e.fs.map (·.2))
theorem aD3.same{K:Frag}{mg:Str->Option Value}{F F':Hp}{e:Er}{a:Addr}(s:aR F F')(h:aD3 K mg F e a):aD3 K mg F' e a:=by
 obtain ⟨C,dx,fvs,h1,h2,h3,h4⟩:=h
 exact ⟨C,dx,fvs,h1,s _ _ h2,h3,h4.same s⟩
structure MapRel(K:Frag)(F:Hp)(es:List Ent)(kvs:List (PyData×PyData)):Prop where
 k1:es.map (·.1)=kvs.map (·.1)
 k2:DatVs K F (es.map (·.2.1)) (kvs.map (·.1))
 vs:DatVs K F (es.map (·.2.2)) (kvs.map (·.2))
 nd:(kvs.map (·.1)).Nodup
theorem MapRel.same{K:Frag}{F F':Hp}{es:List Ent}{kvs:List (PyData×PyData)}(s:aR F F')(h:MapRel K F es kvs):MapRel K F' es kvs:=⟨h.k1,h.k2.same s,h.vs.same s,h.nd⟩
def AF(g:Gb)(K:Frag)(mg:Str->Option Value)(F:Hp):A->V->Prop
 | .d x,v=>DatV K F v x
 | .x e,v=>∃ a C,v=.ref a/\o5 K mg F e a C
 | .g k n G,v=>∃ f F1,v=.ref f/\aR F1 F/\g.B f F1 k n G
 | .f kvs,v=>∃ p es,v=.ref p/\(∃ ep,F p=some (kA g.w p es ep))/\MapRel K F es kvs
 | .o e,v=>∃ a,v=.ref a/\aD3 K mg F e a
 | _,_=>False
theorem AF.same{g:Gb}{K:Frag}{mg:Str->Option Value}{F F':Hp}(s:aR F F'):∀ {a:A} {v:V},AF g K mg F a v->AF g K mg F' a v
 | .d x,v,h=>DatV.same s h
 | .x e,v,⟨a,C,h1,h2⟩=>⟨a,C,h1,h2.same s⟩
 | .g k n G,v,⟨f,F1,h1,h2,h3⟩=>⟨f,F1,h1,fun a o z=>s a o (h2 a o z),h3⟩
 | .f kvs,v,⟨p,es,h1,⟨ep,h2⟩,h3⟩=>⟨p,es,h1,⟨ep,s _ _ h2⟩,h3.same s⟩
 | .o e,v,⟨a,h1,h2⟩=>⟨a,h1,h2.same s⟩
noncomputable def A.own:A->Bool
 | .l _=>true
 | .m _=>true
 | _=>false
def AO(c:Ct)(F H:Hp):A->V->Prop
 | .l xs,v=>∃ p vs,v=.ref p/\H p=some (.lst vs)/\F p=none/\c.H0 p=none/\DatVs c.K F vs xs
 | .m kvs,v=>∃ p es,v=.ref p/\(∃ ep,H p=some (kA c.w p es ep))/\F p=none/\c.H0 p=none/\MapRel c.K F es kvs
 | .k q,v=>∃ S f cl doc pm cc ct,c.cls q=some S/\v=.ref f/\F f=some (FnO f (S.obj cl doc pm cc ct))/\F cc=some (.cod S.qual)/\ClOf c.cells S.scope cl
 | a,v=>AF c.g c.K c.mg F a v
theorem AO.ext{c:Ct}{F H F' H':Hp}(s:Ext F H F' H'):∀ {a:A} {v:V},AO c F H a v->AO c F' H' a v
 | .d x,v,h=>DatV.same s.ff h
 | .x e,v,h=>AF.same (g:=c.g) (K:=c.K) (mg:=c.mg) (a:=.x e) s.ff h
 | .g k n G,v,h=>AF.same (g:=c.g) (K:=c.K) (mg:=c.mg) (a:=.g k n G) s.ff h
 | .f kvs,v,h=>AF.same (g:=c.g) (K:=c.K) (mg:=c.mg) (a:=.f kvs) s.ff h
 | .o e,v,h=>AF.same (g:=c.g) (K:=c.K) (mg:=c.mg) (a:=.o e) s.ff h
 | .k q,v,⟨S,f,cl,doc,pm,cc,ct,h0,h1,h2,h3,h4⟩=>⟨S,f,cl,doc,pm,cc,ct,h0,h1,s.ff _ _ h2,s.ff _ _ h3,h4⟩
 | .l xs,v,⟨p,vs,h1,h2,h3,h4,h5⟩=>⟨p,vs,h1,s.hh _ _ h2,s.stay h3 h2 (fun _ z=>nomatch z),h4,h5.same s.ff⟩
 | .m kvs,v,⟨p,vs,h1,⟨ep,h2⟩,h3,h4,h5⟩=>⟨p,vs,h1,⟨ep,s.hh _ _ h2⟩,s.stay h3 h2 (fun _ z=>z8 z),h4,h5.same s.ff⟩
theorem AO.at{c:Ct}{F H:Hp}{a:A}{v:V}(h:AO c F H a v)(o:a.own=true):∃ p o,v=.ref p/\H p=some o/\F p=none/\c.H0 p=none:=by
 cases a with
 | l xs=>obtain ⟨p,vs,h1,h2,h3,h4,h5⟩:=h;exact ⟨p,_,h1,h2,h3,h4⟩
 | m xs=>obtain ⟨p,vs,h1,⟨ep,h2⟩,h3,h4,h5⟩:=h;exact ⟨p,_,h1,h2,h3,h4⟩
 | d x=>cases o
 | x e=>cases o
 | g k n f=>cases o
 | k S=>cases o
 | f S=>cases o
 | o S=>cases o
theorem AO.off{c:Ct}{F H:Hp}{p:Addr}{o:HO}:∀ {a:A} {v:V},AO c F H a v->v≠.ref p->AO c F (upd H p o) a v
 | .l xs,v,⟨q,vs,h1,h2,h3,h4,h5⟩,n=>⟨q,vs,h1,by rw[aP (fun z=>n (by rw[h1,z]))];exact h2,h3,h4,h5⟩
 | .m xs,v,⟨q,vs,h1,⟨ep,h2⟩,h3,h4,h5⟩,n=>⟨q,vs,h1,⟨ep,by rw[aP (fun z=>n (by rw[h1,z]))];exact h2⟩,h3,h4,h5⟩
 | .d x,v,h,_=>h
 | .x e,v,h,_=>h
 | .g k n G,v,h,_=>h
 | .k S,v,h,_=>h
 | .f S,v,h,_=>h
 | .o S,v,h,_=>h
structure Ab(c:Ct)(ρ:Sg)(σ:L2.St)(F H:Hp):Prop where
 len:ρ.length=σ.length
 fh:aR F H
 slot:∀ (i:Nat) (a:A),ρ[i]? = some (some a)->∃ v,σ[i]? = some (some v)/\AO c F H a v
 apart:∀ (i j:Nat) (a b:A),i≠j->ρ[i]? = some (some a)->ρ[j]? = some (some b)->a.own=true->b.own=true->σ[i]? ≠ σ[j]?
 f0:aR c.F0 F
 h0:aR c.H0 H
 n0:∀ a,c.F0 a=none->F a≠none->nN c.H0 a
 t0:aR c.g.T c.F0
theorem Ab.all{c:Ct}{ρ:Sg}{σ:L2.St}{F H:Hp}(b:Ab c ρ σ F H):Ext c.F0 c.H0 F H:=⟨b.h0,b.f0,b.fh,b.n0⟩
theorem Ab.ext{c:Ct}{ρ:Sg}{σ:L2.St}{F H F' H':Hp}(b:Ab c ρ σ F H)(e:Ext F H F' H'):Ab c ρ σ F' H' where
 len:=b.len
 fh:=e.fh
 slot:=fun i a h=>let ⟨v,h1,h2⟩:=b.slot i a h;⟨v,h1,h2.ext e⟩
 apart:=b.apart
 f0:=fun x o h=>e.ff x o (b.f0 x o h)
 h0:=fun x o h=>e.hh x o (b.h0 x o h)
 n0:=fun a h n=>by
  cases q:F a with
  | none=>exact (e.nw a q n).back b.h0
  | some o=>exact b.n0 a h (by rw[q];exact fun z=>nomatch z)
 t0:=b.t0
def XW(c:Ct)(E:XK)(e:Er):Prop:=∀ a C F' H',Ext c.F0 c.H0 F' H'->o5 c.K c.mg F' e a C->E (.ref C) (some a) H'
def Rk{α:Type}(c:Ct)(E:XK)(F H:Hp)(r:R α)(k:α->Prop):Prop:=match r with
 | .bad=>False
 | .ok a=>k a
 | .ex e=>XW c E e
abbrev VR(α:Type):=α->V->Hp->Hp->Hp->Prop
def tV{α:Type}(Rel:VR α)(c:Ct)(E:XK)(f:Sg->R α):TE:=fun σ H Q=>∃ ρ F,Ab c ρ σ F H/\Rk c E F H (f ρ) fun d=>∀ v F' H',Ext F H F' H'->Rel d v H F' H'->Q v H'
def bZ(c:Ct):VR PyData:=fun d v _ F _=>DatV c.K F v d
def a9(K:Frag)(F H:Hp)(v:V)(d:PyData):Prop:=DatV K F v d\/∃ p vs xs,v=.ref p/\d=.list xs/\H p=some (.lst vs)/\DatVs K F vs xs
def bD(c:Ct):VR PyData:=fun d v _ F H=>a9 c.K F H v d
def aD4(c:Ct):VR A:=fun a v _ F _=>AF c.g c.K c.mg F a v
def tF(c:Ct):VR (List PyData):=fun xs v H F H'=>∃ p vs,v=.ref p/\H p=none/\H' p=some (.lst vs)/\F p=none/\DatVs c.K F vs xs
abbrev PD(X:Cx)(c:Ct)(E:XK)(e:Expr)(f:Sg->R PyData):Prop:=PE X e (tV (bZ c) c E f)
abbrev PR(X:Cx)(c:Ct)(E:XK)(e:Expr)(f:Sg->R PyData):Prop:=PE X e (tV (bD c) c E f)
abbrev PV(X:Cx)(c:Ct)(E:XK)(e:Expr)(f:Sg->R A):Prop:=PE X e (tV (aD4 c) c E f)
abbrev PN(X:Cx)(c:Ct)(E:XK)(e:Expr)(f:Sg->R (List PyData)):Prop:=PE X e (tV (tF c) c E f)
theorem PE.imp{X:Cx}{e:Expr}{t t':TE}(h:PE X e t)(i:∀ σ H Q,t' σ H Q->t σ H Q):PE X e t':=fun pins s σ H Q I q=>h pins s σ H Q I (i σ H Q q)
theorem PT.imp{X:Cx}{e:Expr}{t t':TT}(h:PT X e t)(i:∀ σ H Q,t' σ H Q->t σ H Q):PT X e t':=fun pins s σ H Q I q=>h pins s σ H Q I (i σ H Q q)
theorem PS.imp{X:Cx}{e:Stmt}{t t':TS}(h:PS X e t)(i:∀ D σ H,t' D σ H->t D σ H):PS X e t':=fun pins s σ H D I q=>h pins s σ H D I (i D σ H q)
theorem PSs.imp{X:Cx}{e:List Stmt}{t t':TS}(h:PSs X e t)(i:∀ D σ H,t' D σ H->t D σ H):PSs X e t':=fun pins s σ H D I q=>h pins s σ H D I (i D σ H q)
def aJB{α:Type}(Rel:VR α):Prop:=∀ d v H F H1 F2 H2,Ext F H1 F2 H2->Rel d v H F H1->Rel d v H F2 H2
theorem a9.ext{K:Frag}{F H F' H':Hp}{v:V}{d:PyData}(e:Ext F H F' H')(h:a9 K F H v d):a9 K F' H' v d:=by
 rcases h with h|⟨p,vs,xs,h1,h2,h3,h4⟩
 · exact .inl (h.same e.ff)
 · exact .inr ⟨p, vs, xs, h1, h2, e.hh _ _ h3, h4.same e.ff⟩
theorem uJ(c:Ct):aJB (bD c):=fun d v H F H1 F2 H2 e h=>a9.ext e h
theorem a9.heap{K:Frag}{F H:Hp}{v:V}{d:PyData}(s:aR F H)(h:a9 K F H v d):DatV K H v d:=by
 rcases h with h|⟨p,vs,xs,h1,h2,h3,h4⟩
 · exact h.same s
 · subst h1 h2; exact .lst (SqL.of h3) (h4.same s)
section
variable{X:Cx}{c:Ct}{E:XK}{α β γ:Type}{Ra:VR α}{Rb:VR β}{Rc:VR γ}{σ:L2.St}{H:Hp}{Q:VK}
theorem Rk.ok{F:Hp}{a:α}{k:α->Prop}(h:Rk c E F H (.ok a) k):k a:=h
theorem Rk.imp{F:Hp}{r:R α}{k k':α->Prop}(h:Rk c E F H r k)(i:∀ a,r=.ok a->k a->k' a):Rk c E F H r k':=by
 cases r with
 | bad=>exact h
 | ok a=>exact i a rfl h
 | ex e=>exact h
theorem Rk.bind{F:Hp}{r:R α}{f:α->R β}{k:β->Prop}(h:Rk c E F H (r.bind f) k):Rk c E F H r fun a=>Rk c E F H (f a) k:=by
 cases r with
 | bad=>exact h
 | ok a=>exact h
 | ex e=>exact h
theorem Rk.ext{F F' H':Hp}{r:R α}{k:α->Prop}(e:Ext F H F' H')(h:Rk c E F H r k):Rk c E F' H' r k:=by
 cases r with
 | bad=>exact h
 | ok a=>exact h
 | ex x=>exact h
end
def z9{α:Type}(Rel:VR α):Prop:=∀ d v H H1 F' H',aR H H1->Rel d v H1 F' H'->Rel d v H F' H'
theorem l3(c:Ct):z9 (bZ c):=fun _ _ _ _ _ _ _ h=>h
theorem aJC(c:Ct):z9 (tF c):=fun _ _ _ _ _ _ s h=>by
 obtain ⟨p,vs,h1,h2,h3⟩:=h
 exact ⟨p,vs,h1,bT s h2,h3⟩
section
variable{X:Cx}{c:Ct}{E:XK}{α β γ:Type}{Ra:VR α}{Rb:VR β}{Rc:VR γ}
def Op1(c:Ct)(Ra:VR α)(Rb:VR β)(g:α->R β)(r:V->Hp->VK->Prop):Prop:=
 ∀ (H0 F H:Hp) (a:α) (b:β) (v:V) (Q:VK),aR F H->Ra a v H0 F H->g a=.ok b->(∀ w F' H',Ext F H F' H'->Rb b w H F' H'->Q w H')->r v H Q
def Op2(c:Ct)(Ra:VR α)(Rb:VR β)(Rc:VR γ)(g:α->β->R γ)(r:R2):Prop:=
 ∀ (H0 H1 F H:Hp) (a:α) (b:β) (d:γ) (v u:V) (Q:VK),aR F H->Ra a v H0 F H->Rb b u H1 F H->g a b=.ok d->(∀ w F' H',Ext F H F' H'->Rc d w H F' H'->Q w H')->r v u H Q
def mI(g:α->R β):Prop:=∀ a e,g a≠.ex e
def cM(g:α->β->R γ):Prop:=∀ a b e,g a b≠.ex e
theorem tV1{f:Sg->R α}{g:α->R β}{r:V->Hp->VK->Prop}(ho:Op1 c Ra Rb g r)(hp:mI g)(kb:z9 Rb){σ:L2.St}{H:Hp}{Q:VK}(h:tV Rb c E (fun ρ=>(f ρ).bind g) σ H Q) :
  tV Ra c E f σ H fun v H1=>r v H1 Q:=by
 obtain ⟨ρ,F,ab,h⟩:=h
 refine ⟨ρ,F,ab,(Rk.bind h).imp fun a ea q v F1 H1 e1 rv=>?_⟩
 cases eg:g a with
 | bad=>rw[eg] at q;exact q.elim
 | ex e=>exact absurd eg (hp a e)
 | ok b=>
  rw[eg] at q
  exact ho H F1 H1 a b v Q e1.fh rv eg fun w F' H' e2 rw'=>q w F' H' (e1.trans e2) (kb _ _ _ _ _ _ e1.hh rw')
theorem tV2{f:Sg->R α}{f':Sg->R β}{g:α->β->R γ}{r:R2}(ho:Op2 c Ra Rb Rc g r)(hp:cM g)(ka:aJB Ra)(kb:z9 Rc){σ:L2.St}{H:Hp}{Q:VK}(h:tV Rc c E (fun ρ=>(f ρ).bind fun a=>(f' ρ).bind fun b=>g a b) σ H Q) :
  tOp r (tV Ra c E f) (tV Rb c E f') σ H Q:=by
 obtain ⟨ρ,F,ab,h⟩:=h
 refine ⟨ρ,F,ab,(Rk.bind h).imp fun a ea q v F1 H1 e1 rv=>?_⟩
 refine ⟨ρ,F1,ab.ext e1,((Rk.bind q).ext e1).imp fun b eb q u F2 H2 e2 ru=>?_⟩
 cases eg:g a b with
 | bad=>rw[eg] at q;exact q.elim
 | ex e=>exact absurd eg (hp a b e)
 | ok d=>
  rw[eg] at q
  exact ho H H1 F2 H2 a b d v u Q e2.fh (ka _ _ _ _ _ _ _ e2 rv) ru eg fun w F' H' e3 rw'=>q w F' H' ((e1.trans e2).trans e3) (kb _ _ _ _ _ _ (fun x o z=>e2.hh x o (e1.hh x o z)) rw')
end
end Fl
namespace Fl
open PySem L2 PyProof.Rows
section
variable{K:Frag}{F H:Hp}{v:V}
theorem DatV.bl_of{b:Bool}(h:DatV K H v (.bool b)):v=.bl b:=by cases h;rfl
theorem DatV.non_of(h:DatV K H v .none):v=.non:=by cases h;rfl
theorem a9.int_of{i:Int}(h:a9 K F H v (.int i)):v=.int i:=by
 rcases h with h|⟨_,_,_,_,h,_⟩
 · exact h.int_of
 · cases h
theorem a9.str_of{i:Str}(h:a9 K F H v (.str i)):v=.str i:=by
 rcases h with h|⟨_,_,_,_,h,_⟩
 · exact h.str_of
 · cases h
theorem a9.bl_of{i:Bool}(h:a9 K F H v (.bool i)):v=.bl i:=by
 rcases h with h|⟨_,_,_,_,h,_⟩
 · exact DatV.bl_of h
 · cases h
theorem a9.non_of(h:a9 K F H v .none):v=.non:=by
 rcases h with h|⟨_,_,_,_,h,_⟩
 · exact DatV.non_of h
 · cases h
theorem a9.tup_of{xs:List PyData}(s:aR F H)(h:a9 K F H v (.tuple xs)):∃ a vs,v=.ref a/\SqT K F a vs/\SqT K H a vs/\DatVs K F vs xs:=by
 rcases h with h|⟨_,_,_,_,h,_⟩
 ·obtain ⟨a,vs,h1,h2,h3⟩:=h.tup_of
  exact ⟨a,vs,h1,h2,h2.same s,h3⟩
 ·cases h
theorem a9.lst_of{xs:List PyData}(s:aR F H)(h:a9 K F H v (.list xs)):∃ a vs,v=.ref a/\SqL K H a vs/\DatVs K F vs xs:=by
 rcases h with h|⟨p,vs,ys,h1,h2,h3,h4⟩
 ·obtain ⟨a,vs,h1,h2,h3⟩:=h.lst_of
  exact ⟨a,vs,h1,h2.same s,h3⟩
 ·cases h2
  exact ⟨p,vs,h1,SqL.of h3,h4⟩
theorem aAA{vs:List V}{xs:List PyData}{i:Int}{d:PyData}(h:DatVs K F vs xs)(e:atI xs i=some d):∃ x,atI vs i=some x/\DatV K F x d:=by
 unfold atI at e ⊢
 rw[h.length]
 cases q:ixN xs.length i with
 | none=>rw[q] at e;cases e
 | some j=>
  rw[q] at e
  exact h.get' (i:=j) e
end
noncomputable def eV(i:Nat):Sg->R PyData:=fun ρ=>match ρ[i]? with
 | some (some (.d x))=>.ok x
 | _=>.bad
noncomputable def rV(i:Nat):Sg->R PyData:=fun ρ=>match ρ[i]? with
 | some (some (.d x))=>.ok x
 | some (some (.l xs))=>.ok (.list xs)
 | _=>.bad
noncomputable def vV(i:Nat):Sg->R A:=fun ρ=>match ρ[i]? with
 | some (some (.d x))=>.ok (.d x)
 | some (some (.x e))=>.ok (.x e)
 | some (some (.g k n f))=>.ok (.g k n f)
 | some (some (.f kvs))=>.ok (.f kvs)
 | _=>.bad
def eC(d:PyData):Sg->R PyData:=fun _=>.ok d
section
variable{X:Cx}{c:Ct}{E:XK}{e a b:Expr}
theorem cN{i:Nat}(h:PE X e (gF i)):PD X c E e (eV i):=PE.imp h fun σ H Q ⟨ρ,F,ab,k⟩=>by
 unfold eV at k
 split at k
 ·rename_i x hx
  obtain ⟨v,h1,h2⟩:=ab.slot i _ hx
  exact ⟨v,h1,k v F H (Ext.refl ab.fh) h2⟩
 ·exact k.elim
theorem aC{i:Nat}(h:PE X e (gF i)):PR X c E e (rV i):=PE.imp h fun σ H Q ⟨ρ,F,ab,k⟩=>by
 unfold rV at k
 split at k
 ·rename_i x hx
  obtain ⟨v,h1,h2⟩:=ab.slot i _ hx
  exact ⟨v,h1,k v F H (Ext.refl ab.fh) (.inl h2)⟩
 ·rename_i x hx
  obtain ⟨v,h1,p,vs,h2,h3,h4,h5,h6⟩:=ab.slot i _ hx
  exact ⟨v,h1,k v F H (Ext.refl ab.fh) (.inr ⟨p,vs,x,h2,rfl,h3,h6⟩)⟩
 ·exact k.elim
theorem aT{i:Nat}(h:PE X e (gF i)):PV X c E e (vV i):=PE.imp h fun σ H Q ⟨ρ,F,ab,k⟩=>by
 unfold vV at k
 split at k
 ·rename_i x hx
  obtain ⟨v,h1,h2⟩:=ab.slot i _ hx
  exact ⟨v,h1,k v F H (Ext.refl ab.fh) h2⟩
 ·rename_i x hx
  obtain ⟨v,h1,h2⟩:=ab.slot i _ hx
  exact ⟨v,h1,k v F H (Ext.refl ab.fh) h2⟩
 ·rename_i kk nn ff hx
  obtain ⟨v,h1,h2⟩:=ab.slot i _ hx
  exact ⟨v,h1,k v F H (Ext.refl ab.fh) h2⟩
 ·rename_i kvs hx
  obtain ⟨v,h1,h2⟩:=ab.slot i _ hx
  exact ⟨v,h1,k v F H (Ext.refl ab.fh) h2⟩
 ·exact k.elim
theorem iJ{v:V}{d:PyData}(h:PE X e (tC v))(hd:∀ F,DatV c.K F v d):PD X c E e (eC d):=PE.imp h fun σ H Q ⟨ρ,F,ab,k⟩=>k v F H (Ext.refl ab.fh) (hd F)
theorem aD{i j pos}:PD X c E (.Constant (.int i) j pos) (eC (.int i)):=iJ aLY fun _=>.int i
theorem lD{i j pos}:PD X c E (.Constant (.bool i) j pos) (eC (.bool i)):=iJ aOD fun _=>.bl i
theorem dR{i j pos}:PD X c E (.Constant (.str i) j pos) (eC (.str i)):=iJ aL0 fun _=>.str i
theorem mJ{j pos}:PD X c E (.Constant .none j pos) (eC .none):=iJ aLZ fun _=>.non
theorem aA{f:Sg->R PyData}(h:PD X c E e f):PR X c E e f:=PE.imp h fun σ H Q ⟨ρ,F,ab,k⟩=>⟨ρ,F,ab,k.imp fun d _ q v F' H' s r=>q v F' H' s (.inl r)⟩
def vD(f:Sg->R PyData):Sg->R A:=fun ρ=>(f ρ).bind fun x=>.ok (.d x)
theorem aV{f:Sg->R PyData}(h:PD X c E e f):PV X c E e (vD f):=PE.imp h fun σ H Q ⟨ρ,F,ab,k⟩=>⟨ρ,F,ab,(Rk.bind k).imp fun d _ q v F' H' s r=>Rk.ok q v F' H' s r⟩
def getD:A->R PyData
 | .d x=>.ok x
 | _=>.bad
def eA(f:Sg->R A):Sg->R PyData:=fun ρ=>(f ρ).bind getD
theorem dN{f:Sg->R A}(h:PV X c E e f):PD X c E e (eA f):=PE.imp h fun σ H Q ⟨ρ,F,ab,k⟩=>⟨ρ,F,ab,(Rk.bind k).imp fun d _ q v F' H' s r=>by
 cases d with
 | d x=>exact Rk.ok q v F' H' s r
 | _=>exact False.elim q⟩
def eL(f:Sg->R (List PyData)):Sg->R PyData:=fun ρ=>(f ρ).bind fun xs=>.ok (.list xs)
theorem hR{f:Sg->R (List PyData)}(h:PN X c E e f):PD X c E e (eL f):=PE.imp h fun σ H Q ⟨ρ,F,ab,k⟩=>⟨ρ,F,ab,(Rk.bind k).imp fun xs _ q v F' H' s r=>by
 obtain ⟨p,vs,h1,h2,h3,h4,h5⟩:=r
 subst h1
 refine Rk.ok q (.ref p) (upd F' p (.lst vs)) H' ⟨s.hh,fun a o z=>?_,fun a o z=>?_,fun a z n=>?_⟩ (.lst (SqL.of aY) (h5.same (aR.upd h4)))
 ·rw[aP (c6 (s.ff a o z) h4)];exact s.ff a o z
 ·by_cases w:a=p
  · subst w; rw [aY] at z; rw [h3]; exact z
  · rw [aP w] at z; exact s.fh a o z
 ·by_cases w:a=p
  · subst w; exact .inl h2
  · rw [aP w] at n; exact s.nw a z n⟩
def e1{α β:Type}(g:α->R β)(f:Sg->R α):Sg->R β:=fun ρ=>(f ρ).bind g
def e2{α β γ:Type}(g:α->β->R γ)(f:Sg->R α)(f':Sg->R β):Sg->R γ:=fun ρ=>(f ρ).bind fun x=>(f' ρ).bind fun y=>g x y
noncomputable def bM:PyData->PyData->R PyData
 | .int i,.int j=>.ok (.int (i+j))
 | .str x,.str y=>if x.length+y.length<=sizeLine then .ok (.str (x++y)) else .bad
 | .tuple xs,.tuple ys=>if xs.isEmpty=false/\xs.length+ys.length<=sizeLine then .ok (.tuple (xs++ys)) else .bad
 | _,_=>.bad
def dSub:PyData->PyData->R PyData
 | .int i,.int j=>.ok (.int (i - j))
 | _,_=>.bad
noncomputable def dMul:PyData->PyData->R PyData
 | .int i,.int j=>if (-18446744073709551616 < i/\i < 18446744073709551616)\/(-18446744073709551616 < j/\j < 18446744073709551616) then .ok (.int (i * j)) else .bad
 | _,_=>.bad
def dDiv:PyData->PyData->R PyData
 | .int i,.int j=>if 0 < j/\j < 18446744073709551616 then .ok (.int (i / j)) else .bad
 | _,_=>.bad
def dMod:PyData->PyData->R PyData
 | .int i,.int j=>if 0 < j then .ok (.int (i % j)) else .bad
 | _,_=>.bad
def dNeg:PyData->R PyData
 | .int i=>.ok (.int (-i))
 | _=>.bad
def dLt:PyData->PyData->R PyData
 | .int i,.int j=>.ok (.bool (decide (i < j)))
 | _,_=>.bad
def dLe:PyData->PyData->R PyData
 | .int i,.int j=>.ok (.bool (decide (i<=j)))
 | _,_=>.bad
def dGt:PyData->PyData->R PyData
 | .int i,.int j=>.ok (.bool (decide (j < i)))
 | _,_=>.bad
def dGe:PyData->PyData->R PyData
 | .int i,.int j=>.ok (.bool (decide (j<=i)))
 | _,_=>.bad
def dEq(x y:PyData):R PyData:=if SeqAt.shaped x=true/\SeqAt.shaped y=true then .ok (.bool (PyData.eqv x y)) else .bad
def dNe(x y:PyData):R PyData:=if SeqAt.shaped x=true/\SeqAt.shaped y=true then .ok (.bool (!PyData.eqv x y)) else .bad
def jP:PyData->Bool
 | .none=>true
 | _=>false
def dIs(x y:PyData):R PyData:=if jP y=true then .ok (.bool (jP x)) else .bad
def dIsnt(x y:PyData):R PyData:=if jP y=true then .ok (.bool (!jP x)) else .bad
noncomputable def inD:PyData->PyData->Option Bool
 | .str i,.str j=>some (!(Builtin.Str.occurrences j i 0 j.length 1).isEmpty)
 | x,.list xs=>if SeqAt.shaped x=true/\SeqAt.shaped (.list xs)=true then some (xs.any fun y=>PyData.eqv y x) else none
 | x,.tuple xs=>if SeqAt.shaped x=true/\SeqAt.shaped (.tuple xs)=true then some (xs.any fun y=>PyData.eqv y x) else none
 | _,_=>none
def dIn(x y:PyData):R PyData:=match inD x y with
 | some b=>.ok (.bool b)
 | none=>.bad
def dNin(x y:PyData):R PyData:=match inD x y with
 | some b=>.ok (.bool (!b))
 | none=>.bad
noncomputable def dIx:PyData->PyData->R PyData
 | .list xs,.int i=>match atI xs i with
  | some v=>.ok v
  | none=>.bad
 | .tuple xs,.int i=>match atI xs i with
  | some v=>.ok v
  | none=>.bad
 | .str z,.int i=>if z.length<=sizeLine then match atI z.cps.toList i with
  | some u=>.ok (.str ⟨#[u]⟩)
  | none=>.bad else .bad
 | _,_=>.bad
end
end Fl
namespace Fl
open PySem L2 PyProof.Rows
section
variable{X:Cx}{c:Ct}{E:XK}{e a b:Expr}{α β γ:Type}{Ra:VR α}{Rb:VR β}{Rc:VR γ}{pos:Pos}
def r2D(Ra:VR α)(Rb:VR β)(Rc:VR γ)(g:α->β->R γ):R2:=fun v u H Q=>∃ H0 H1 F a b d,aR F H/\Ra a v H0 F H/\Rb b u H1 F H/\g a b=.ok d/\∀ w F' H',Ext F H F' H'->Rc d w H F' H'->Q w H'
def r1D(Ra:VR α)(Rb:VR β)(g:α->R β):V->Hp->VK->Prop:=fun v H Q=>∃ H0 F a b,aR F H/\Ra a v H0 F H/\g a=.ok b/\∀ w F' H',Ext F H F' H'->Rb b w H F' H'->Q w H'
theorem yU{g:α->β->R γ}:Op2 c Ra Rb Rc g (r2D Ra Rb Rc g):=fun H0 H1 F H a b d v u Q sf ra rb eg q=>⟨H0,H1,F,a,b,d,sf,ra,rb,eg,q⟩
theorem uK{g:α->R β}:Op1 c Ra Rb g (r1D Ra Rb g):=fun H0 F H a b v Q sf ra eg q=>⟨H0,F,a,b,sf,ra,eg,q⟩
theorem aG{op:Operator}{g:PyData->PyData->R PyData}{fa fb:Sg->R PyData}(ho:OpR X (binaryOp op) (r2D (bD c) (bD c) (bZ c) g))(hp:cM g)(ha:PR X c E a fa)(hb:PR X c E b fb):PD X c E (.BinOp a op b pos) (e2 g fa fb):=
 PE.imp (aI2 ho ha hb) fun σ H Q h=>tV2 yU hp (uJ c) (l3 c) h
theorem lE{op:UnaryOp}{g:PyData->R PyData}{fa:Sg->R PyData}(ho:UnR X (unaryOp op) (r1D (bD c) (bZ c) g))(hp:mI g)(ha:PR X c E a fa):PD X c E (.UnaryOp op a pos) (e1 g fa):=
 PE.imp (aOG ho ha) fun σ H Q h=>tV1 uK hp (l3 c) h
theorem jJ{op:CmpOp}{g:PyData->PyData->R PyData}{fa fb:Sg->R PyData}(ho:OpR X (compareOp op) (r2D (bD c) (bD c) (bZ c) g))(hp:cM g)(ha:PR X c E a fa)(hb:PR X c E b fb)(hm:behindInMarks op b=false):PD X c E (.Compare a [op] [b] pos) (e2 g fa fb):=
 PE.imp (aJX ho ha hb hm) fun σ H Q h=>tV2 yU hp (uJ c) (l3 c) h
theorem aW{g:PyData->PyData->R PyData}{fa fb:Sg->R PyData}(ho:IxR X (r2D (bD c) (bD c) (bZ c) g))(hp:cM g)(ha:PR X c E a fa)(hb:PR X c E b fb)(hs:aB4 b:=by exact fun _ _=>rfl):PD X c E (.Subscript a b pos) (e2 g fa fb):=
 PE.imp (L2.aI5 ho ha hb hs) fun σ H Q h=>tV2 yU hp (uJ c) (l3 c) h
theorem bY(hK:X.K=c.K):OpR X (binaryOp .Add) (r2D (bD c) (bD c) (bZ c) bM):=by
 intro pins s σ H v u x y Q I rx ry h
 obtain ⟨H0,H1,F,a,b,d,sf,ra,rb,eg,q⟩:=h
 unfold bM at eg
 split at eg
 ·rename_i i j
  cases eg
  obtain rfl:=a9.int_of ra
  obtain rfl:=a9.int_of rb
  exact aL5 pins s σ H _ _ x y Q I rx ry ⟨i,j,rfl,rfl,q _ F H (Ext.refl sf) (.int _)⟩
 ·rename_i i j
  split at eg
  ·rename_i hz
   cases eg
   obtain rfl:=a9.str_of ra
   obtain rfl:=a9.str_of rb
   exact aDH pins s σ H _ _ x y Q I rx ry ⟨i,j,rfl,rfl,hz,q _ F H (Ext.refl sf) (.str _)⟩
  ·cases eg
 ·rename_i xs ys
  split at eg
  ·rename_i hz
   cases eg
   obtain ⟨pa,vs,rfl,fa,ha,da⟩:=a9.tup_of sf ra
   obtain ⟨pb,us,rfl,fb,hb,db⟩:=a9.tup_of sf rb
   rw[<-hK] at ha hb
   refine aB3 pins s σ H _ _ x y Q I rx ry ⟨pa,pb,vs,us,rfl,rfl,ha,hb,?_,by rw[da.length,db.length];exact hz.2,fun z=>?_,fun z p hp=>?_⟩
   ·intro z;subst z;obtain rfl:xs=[]:=by cases da;rfl
    exact absurd hz.1 (by decide)
   ·subst z
    obtain rfl:ys=[]:=by cases db;rfl
    exact q _ F H (Ext.refl sf) (by rw[List.append_nil];exact .tup fa da)
   ·exact q _ _ _ (Ext.new sf hp) (.tup (SqT.of aY) ((da.append db).same (aR.upd (bT sf hp))))
  ·cases eg
 ·cases eg
theorem bL:cM bM:=by
 intro a b e h
 unfold bM at h
 split at h<;>(try split at h)<;>cases h
theorem kC{f:Value->Value->Sem Value}{g:PyData->PyData->R PyData}{C:Int->Int->Prop}{k:Int->Int->PyData}{kv:Int->Int->V}(ho:OpR X f (rI C kv))(hk:∀ i j F,DatV c.K F (kv i j) (k i j))
  (hg:∀ a b d,g a b=.ok d->∃ i j,a=.int i/\b=.int j/\C i j/\d=k i j):OpR X f (r2D (bD c) (bD c) (bZ c) g):=by
 intro pins s σ H v u x y Q I rx ry h
 obtain ⟨H0,H1,F,a,b,d,sf,ra,rb,eg,q⟩:=h
 obtain ⟨i,j,rfl,rfl,hc,rfl⟩:=hg a b d eg
 obtain rfl:=a9.int_of ra
 obtain rfl:=a9.int_of rb
 exact ho pins s σ H _ _ x y Q I rx ry ⟨i,j,rfl,rfl,hc,q _ F H (Ext.refl sf) (hk i j F)⟩
theorem uL{f:Value->Value->Sem Value}{kv:Int->Int->V}(ho:OpR X f (rI0 kv)):OpR X f (rI (fun _ _=>True) kv):=fun pins s σ H x y v u Q I rx ry ⟨i,j,h1,h2,_,q⟩=>ho pins s σ H x y v u Q I rx ry ⟨i,j,h1,h2,q⟩
theorem fZ:OpR X (binaryOp .Sub) (r2D (bD c) (bD c) (bZ c) dSub):=kC (uL aL6) (fun _ _ _=>.int _) fun a b d h=>by
 unfold dSub at h;split at h
 · cases h; exact ⟨_, _, rfl, rfl, trivial, rfl⟩
 · cases h
theorem hZ:OpR X (binaryOp .Mult) (r2D (bD c) (bD c) (bZ c) dMul):=kC aL7 (fun _ _ _=>.int _) fun a b d h=>by
 unfold dMul at h;split at h
 ·split at h
  · rename_i hc; cases h; exact ⟨_, _, rfl, rfl, hc, rfl⟩
  · cases h
 ·cases h
theorem c8:OpR X (binaryOp .FloorDiv) (r2D (bD c) (bD c) (bZ c) dDiv):=kC aHF (fun _ _ _=>.int _) fun a b d h=>by
 unfold dDiv at h;split at h
 ·split at h
  · rename_i hc; cases h; exact ⟨_, _, rfl, rfl, hc, rfl⟩
  · cases h
 ·cases h
theorem bG:OpR X (binaryOp .Mod) (r2D (bD c) (bD c) (bZ c) dMod):=kC aL8 (fun _ _ _=>.int _) fun a b d h=>by
 unfold dMod at h;split at h
 ·split at h
  · rename_i hc; cases h; exact ⟨_, _, rfl, rfl, hc, rfl⟩
  · cases h
 ·cases h
theorem qJ:OpR X (compareOp .Lt) (r2D (bD c) (bD c) (bZ c) dLt):=kC (uL aOH) (fun _ _ _=>.bl _) fun a b d h=>by
 unfold dLt at h;split at h
 · cases h; exact ⟨_, _, rfl, rfl, trivial, rfl⟩
 · cases h
theorem aFP:OpR X (compareOp .LtE) (r2D (bD c) (bD c) (bZ c) dLe):=kC (uL aOI) (fun _ _ _=>.bl _) fun a b d h=>by
 unfold dLe at h;split at h
 · cases h; exact ⟨_, _, rfl, rfl, trivial, rfl⟩
 · cases h
theorem mK:OpR X (compareOp .Gt) (r2D (bD c) (bD c) (bZ c) dGt):=kC (uL aOJ) (fun _ _ _=>.bl _) fun a b d h=>by
 unfold dGt at h;split at h
 · cases h; exact ⟨_, _, rfl, rfl, trivial, rfl⟩
 · cases h
theorem aMZ:OpR X (compareOp .GtE) (r2D (bD c) (bD c) (bZ c) dGe):=kC (uL aOK) (fun _ _ _=>.bl _) fun a b d h=>by
 unfold dGe at h;split at h
 · cases h; exact ⟨_, _, rfl, rfl, trivial, rfl⟩
 · cases h
theorem eO:cM dSub:=by intro a b e h;unfold dSub at h;split at h<;>cases h
theorem fG:cM dMul:=by intro a b e h;unfold dMul at h;split at h<;>(try split at h)<;>cases h
theorem cD:cM dDiv:=by intro a b e h;unfold dDiv at h;split at h<;>(try split at h)<;>cases h
theorem aZ:cM dMod:=by intro a b e h;unfold dMod at h;split at h<;>(try split at h)<;>cases h
theorem mL:cM dLt:=by intro a b e h;unfold dLt at h;split at h<;>cases h
theorem aAB:cM dLe:=by intro a b e h;unfold dLe at h;split at h<;>cases h
theorem jS:cM dGt:=by intro a b e h;unfold dGt at h;split at h<;>cases h
theorem aHQ:cM dGe:=by intro a b e h;unfold dGe at h;split at h<;>cases h
theorem b5:cM dEq:=by intro a b e h;unfold dEq at h;split at h<;>cases h
theorem aHR:cM dNe:=by intro a b e h;unfold dNe at h;split at h<;>cases h
theorem aHS:cM dIs:=by intro a b e h;unfold dIs at h;split at h<;>cases h
theorem l5:cM dIsnt:=by intro a b e h;unfold dIsnt at h;split at h<;>cases h
theorem aHT:cM dIn:=by intro a b e h;unfold dIn at h;split at h<;>cases h
theorem aFQ:cM dNin:=by intro a b e h;unfold dNin at h;split at h<;>cases h
theorem fH:mI dNeg:=by intro a e h;unfold dNeg at h;split at h<;>cases h
theorem aL:cM dIx:=by
 intro a b e h
 unfold dIx at h
 split at h<;>(try split at h)<;>(try split at h)<;>cases h
theorem h7:UnR X (unaryOp .USub) (r1D (bD c) (bZ c) dNeg):=by
 intro pins s σ H v x Q I rx h
 obtain ⟨H0,F,a,d,sf,ra,eg,q⟩:=h
 unfold dNeg at eg
 split at eg
 ·rename_i i
  cases eg
  obtain rfl:=a9.int_of ra
  exact aMA pins s σ H _ x Q I rx ⟨i,rfl,q _ F H (Ext.refl sf) (.int _)⟩
 ·cases eg
theorem cR(hK:X.K=c.K)(hu:X.A.units+64 < cLine):OpR X (compareOp .Eq) (r2D (bD c) (bD c) (bZ c) dEq):=by
 intro pins s σ H v u x y Q I rx ry h
 obtain ⟨H0,H1,F,a,b,d,sf,ra,rb,eg,q⟩:=h
 unfold dEq at eg
 split at eg
 ·rename_i hs
  cases eg
  exact aMO hu pins s σ H _ _ x y Q I rx ry ⟨a,b,by rw[hK];exact a9.heap sf ra,by rw[hK];exact a9.heap sf rb,hs.1,hs.2,q _ F H (Ext.refl sf) (.bl _)⟩
 ·cases eg
theorem aM0(hK:X.K=c.K)(hu:X.A.units+64 < cLine):OpR X (compareOp .NotEq) (r2D (bD c) (bD c) (bZ c) dNe):=by
 intro pins s σ H v u x y Q I rx ry h
 obtain ⟨H0,H1,F,a,b,d,sf,ra,rb,eg,q⟩:=h
 unfold dNe at eg
 split at eg
 ·rename_i hs
  cases eg
  exact aMP hu pins s σ H _ _ x y Q I rx ry ⟨a,b,by rw[hK];exact a9.heap sf ra,by rw[hK];exact a9.heap sf rb,hs.1,hs.2,q _ F H (Ext.refl sf) (.bl _)⟩
 ·cases eg
theorem nO{K:Frag}{F H:Hp}{v:V}{d:PyData}(h:a9 K F H v d):decide (v=.non)=jP d:=by
 rcases h with h|⟨p,vs,xs,h1,h2,_⟩
 · cases h <;> rfl
 · subst h1 h2; rfl
theorem aM1:OpR X (compareOp .Is) (r2D (bD c) (bD c) (bZ c) dIs):=by
 intro pins s σ H v u x y Q I rx ry h
 obtain ⟨H0,H1,F,a,b,d,sf,ra,rb,eg,q⟩:=h
 unfold dIs at eg
 split at eg
 ·rename_i hs
  cases eg
  have e2:=nO rb
  rw[hs] at e2
  refine aMB pins s σ H _ _ x y Q I rx ry ⟨of_decide_eq_true e2,q _ F H (Ext.refl sf) ?_⟩
  rw[nO ra];exact .bl _
 ·cases eg
theorem o6:OpR X (compareOp .IsNot) (r2D (bD c) (bD c) (bZ c) dIsnt):=by
 intro pins s σ H v u x y Q I rx ry h
 obtain ⟨H0,H1,F,a,b,d,sf,ra,rb,eg,q⟩:=h
 unfold dIsnt at eg
 split at eg
 ·rename_i hs
  cases eg
  have e2:=nO rb
  rw[hs] at e2
  refine aJW pins s σ H _ _ x y Q I rx ry ⟨of_decide_eq_true e2,q _ F H (Ext.refl sf) ?_⟩
  rw[nO ra];exact .bl _
 ·cases eg
theorem o7{xs:List PyData}(h:SeqAt.shaped (.list xs)=true):PyData.canLayAll0 xs=true/\PyData.depthAll xs<=63:=by
 have h':(PyData.canLay0 (.list xs) && decide ((PyData.list xs).depth<=64))=true:=h
 rw[Bool.and_eq_true] at h'
 have hd:PyData.depthAll xs+1<=64:=of_decide_eq_true h'.2
 exact ⟨h'.1,by omega⟩
theorem sR{xs:List PyData}(h:SeqAt.shaped (.tuple xs)=true):PyData.canLayAll0 xs=true/\PyData.depthAll xs<=63:=by
 have h':(PyData.canLay0 (.tuple xs) && decide ((PyData.tuple xs).depth<=64))=true:=h
 rw[Bool.and_eq_true] at h'
 have hd:PyData.depthAll xs+1<=64:=of_decide_eq_true h'.2
 exact ⟨h'.1,by omega⟩
theorem kD{d:PyData}(h:SeqAt.shaped d=true):d.canLay0=true:=by
 have h':(PyData.canLay0 d && decide (d.depth<=64))=true:=h
 rw[Bool.and_eq_true] at h'
 exact h'.1
theorem inD_cases{x y:PyData}{b:Bool}(h:inD x y=some b):(∃ i j,x=.str i/\y=.str j/\b = !(Builtin.Str.occurrences j i 0 j.length 1).isEmpty) \/
  (∃ xs,y=.list xs/\SeqAt.shaped x=true/\SeqAt.shaped (.list xs)=true/\b=xs.any fun z=>PyData.eqv z x)\/(∃ xs,y=.tuple xs/\SeqAt.shaped x=true/\SeqAt.shaped (.tuple xs)=true/\b=xs.any fun z=>PyData.eqv z x):=by
 unfold inD at h
 split at h
 ·cases h;exact .inl ⟨_,_,rfl,rfl,rfl⟩
 ·split at h
  · rename_i hs; cases h; exact .inr (.inl ⟨_, rfl, hs.1, hs.2, rfl⟩)
  · cases h
 ·split at h
  · rename_i hs; cases h; exact .inr (.inr ⟨_, rfl, hs.1, hs.2, rfl⟩)
  · cases h
 ·cases h
theorem mM{a b:Nat}(h:a<=63):min a b<=63:=Nat.le_trans (Nat.min_le_left _ _) h
theorem aM2(hK:X.K=c.K)(hu:X.A.units+64 < cLine):OpR X (compareOp .In) (r2D (bD c) (bD c) (bZ c) dIn):=by
 intro pins s σ H v u x y Q I rx ry h
 obtain ⟨H0,H1,F,a,b,d,sf,ra,rb,eg,q⟩:=h
 unfold dIn at eg
 split at eg
 ·rename_i bb hb
  cases eg
  have fin:EP X pins σ Q (.bool bb) s:=⟨.bl bb,H,I,rfl,q _ F H (Ext.refl sf) (.bl _)⟩
  rcases inD_cases hb with ⟨i,j,rfl,rfl,rfl⟩|⟨xs,rfl,h1,h2,rfl⟩|⟨xs,rfl,h1,h2,rfl⟩
  ·obtain rfl:=a9.str_of ra
   obtain rfl:=a9.str_of rb
   exact aEW pins s σ H _ _ x y Q I rx ry ⟨i,j,rfl,rfl,q _ F H (Ext.refl sf) (.bl _)⟩
  ·obtain ⟨as,r1⟩:=DatV.reads I (by rw[hK];exact a9.heap sf ra) rx
   obtain ⟨bs,r2⟩:=DatV.reads I (by rw[hK];exact a9.heap sf rb) ry
   have hs:=o7 h2
   have hm:=mM (b:=a.depth) hs.2
   exact SeqAt.in_list_reads r2 r1 hs.1 (kD h1) (by omega) fin
  ·obtain ⟨as,r1⟩:=DatV.reads I (by rw[hK];exact a9.heap sf ra) rx
   obtain ⟨bs,r2⟩:=DatV.reads I (by rw[hK];exact a9.heap sf rb) ry
   have hs:=sR h2
   have hm:=mM (b:=a.depth) hs.2
   exact SeqAt.in_tuple_reads r2 r1 hs.1 (kD h1) (by omega) fin
 ·cases eg
theorem aKP(hK:X.K=c.K)(hu:X.A.units+64 < cLine):OpR X (compareOp .NotIn) (r2D (bD c) (bD c) (bZ c) dNin):=by
 intro pins s σ H v u x y Q I rx ry h
 obtain ⟨H0,H1,F,a,b,d,sf,ra,rb,eg,q⟩:=h
 unfold dNin at eg
 split at eg
 ·rename_i bb hb
  cases eg
  have fin:EP X pins σ Q (.bool (!bb)) s:=⟨.bl (!bb),H,I,rfl,q _ F H (Ext.refl sf) (.bl _)⟩
  rcases inD_cases hb with ⟨i,j,rfl,rfl,rfl⟩|⟨xs,rfl,h1,h2,rfl⟩|⟨xs,rfl,h1,h2,rfl⟩
  ·obtain rfl:=a9.str_of ra
   obtain rfl:=a9.str_of rb
   exact zC pins s σ H _ _ x y Q I rx ry ⟨i,j,rfl,rfl,q _ F H (Ext.refl sf) (.bl _)⟩
  ·obtain ⟨as,r1⟩:=DatV.reads I (by rw[hK];exact a9.heap sf ra) rx
   obtain ⟨bs,r2⟩:=DatV.reads I (by rw[hK];exact a9.heap sf rb) ry
   have hs:=o7 h2
   have hm:=mM (b:=a.depth) hs.2
   exact SeqAt.notIn_list_reads r2 r1 hs.1 (kD h1) (by omega) fin
  ·obtain ⟨as,r1⟩:=DatV.reads I (by rw[hK];exact a9.heap sf ra) rx
   obtain ⟨bs,r2⟩:=DatV.reads I (by rw[hK];exact a9.heap sf rb) ry
   have hs:=sR h2
   have hm:=mM (b:=a.depth) hs.2
   exact SeqAt.notIn_tuple_reads r2 r1 hs.1 (kD h1) (by omega) fin
 ·cases eg
theorem aX(hK:X.K=c.K):IxR X (r2D (bD c) (bD c) (bZ c) dIx):=by
 intro value slice pins s σ H v u x y Q I rx ry h hs
 obtain ⟨H0,H1,F,a,b,d,sf,ra,rb,eg,q⟩:=h
 unfold dIx at eg
 split at eg
 ·rename_i xs i
  split at eg
  ·rename_i w hw
   cases eg
   obtain ⟨p,vs,rfl,h1,h2⟩:=a9.lst_of sf ra
   obtain rfl:=a9.int_of rb
   obtain ⟨z,h3,h4⟩:=aAA h2 hw
   rw[<-hK] at h1
   exact aB5 value slice pins s σ H _ _ x y Q I rx ry ⟨p,vs,i,z,rfl,rfl,h1,h3,q _ F H (Ext.refl sf) h4⟩ hs
  ·cases eg
 ·rename_i xs i
  split at eg
  ·rename_i w hw
   cases eg
   obtain ⟨p,vs,rfl,_,h1,h2⟩:=a9.tup_of sf ra
   obtain rfl:=a9.int_of rb
   obtain ⟨z,h3,h4⟩:=aAA h2 hw
   rw[<-hK] at h1
   exact aE1 value slice pins s σ H _ _ x y Q I rx ry ⟨p,vs,i,z,rfl,rfl,h1,h3,q _ F H (Ext.refl sf) h4⟩ hs
  ·cases eg
 ·rename_i z i
  split at eg
  ·rename_i hz
   split at eg
   ·rename_i w hw
    cases eg
    obtain rfl:=a9.str_of ra
    obtain rfl:=a9.int_of rb
    exact aE2 value slice pins s σ H _ _ x y Q I rx ry ⟨z,i,w,rfl,rfl,hz,hw,q _ F H (Ext.refl sf) (.str _)⟩ hs
   ·cases eg
  ·cases eg
 ·cases eg
def tTf(c:Ct)(E:XK)(f:Sg->R Bool):TT:=fun σ H Q=>∃ ρ F,Ab c ρ σ F H/\Rk c E F H (f ρ) fun b=>∀ F' H',Ext F H F' H'->Q b H'
abbrev PTf(X:Cx)(c:Ct)(E:XK)(e:Expr)(f:Sg->R Bool):Prop:=PT X e (tTf c E f)
def asB:PyData->R Bool
 | .bool b=>.ok b
 | _=>.bad
theorem rT{f:Sg->R PyData}{σ:L2.St}{H:Hp}{Q:Bool->Hp->Prop}(h:tTf c E (e1 asB f) σ H Q):tV (bZ c) c E f σ H fun x H'=>∃ k,x=.bl k/\Q k H':=by
 obtain ⟨ρ,F,ab,h⟩:=h
 refine ⟨ρ,F,ab,(Rk.bind h).imp fun d _ q v F' H' s r=>?_⟩
 cases d with
 | bool b=>exact ⟨b,DatV.bl_of r,Rk.ok q F' H' s⟩
 | _=>exact False.elim q
theorem bV{op:CmpOp}{g:PyData->PyData->R PyData}{fa fb:Sg->R PyData}(ho:OpR X (compareOp op) (r2D (bD c) (bD c) (bZ c) g))(hp:cM g)(ha:PR X c E a fa)(hb:PR X c E b fb)(hm:behindInMarks op b=false):PTf X c E (.Compare a [op] [b] pos) (e1 asB (e2 g fa fb)):=
 PT.imp (vQ ho ha hb hm) fun σ H Q h=>tV2 yU hp (uJ c) (l3 c) (rT h)
theorem oC{f:Sg->R PyData}(h:PD X c E e f)(he:∀ whole,isTrue e X.env whole=(do let v <-whole;standAt e.pos;holding [v] (truthy v)):=by intro _;rfl):PTf X c E e (e1 asB f):=
 PT.imp (L2.oC h he) fun σ H Q h=>rT h
def gP(f g:Sg->R Bool):Sg->R Bool:=fun ρ=>(f ρ).bind fun b=>if b=true then g ρ else .ok false
def bOr(f g:Sg->R Bool):Sg->R Bool:=fun ρ=>(f ρ).bind fun b=>if b=true then .ok true else g ρ
def aAC(f:Sg->R Bool):Sg->R Bool:=fun ρ=>(f ρ).bind fun b=>.ok (!b)
abbrev PWf(X:Cx)(c:Ct)(E:XK)(e:Expr)(f:Sg->R Bool):Prop:=PW X e (tTf c E f)
theorem PW.imp{X:Cx}{e:Expr}{t t':TT}(h:PW X e t)(i:∀ σ H Q,t' σ H Q->t σ H Q):PW X e t':=fun whole pins s σ H Q I q=>h whole pins s σ H Q I (i σ H Q q)
theorem aPZ{f g:Sg->R Bool}{σ:L2.St}{H:Hp}{Q:Bool->Hp->Prop}(h:tTf c E (gP f g) σ H Q):aL1 (tTf c E f) (tTf c E g) σ H Q:=by
 obtain ⟨ρ,F,ab,h⟩:=h
 refine ⟨ρ,F,ab,(Rk.bind h).imp fun b _ q F' H' s=>?_⟩
 cases b with
 | true=>exact ⟨ρ,F',ab.ext s,(Rk.ext s q).imp fun d _ z F2 H2 s2=>z F2 H2 (s.trans s2)⟩
 | false=>exact Rk.ok q F' H' s
theorem tor{f g:Sg->R Bool}{σ:L2.St}{H:Hp}{Q:Bool->Hp->Prop}(h:tTf c E (bOr f g) σ H Q):tOr (tTf c E f) (tTf c E g) σ H Q:=by
 obtain ⟨ρ,F,ab,h⟩:=h
 refine ⟨ρ,F,ab,(Rk.bind h).imp fun b _ q F' H' s=>?_⟩
 cases b with
 | false=>exact ⟨ρ,F',ab.ext s,(Rk.ext s q).imp fun d _ z F2 H2 s2=>z F2 H2 (s.trans s2)⟩
 | true=>exact Rk.ok q F' H' s
theorem kQ{f:Sg->R Bool}(h:PTf X c E a f):PWf X c E (.BoolOp .And [a] pos) f:=L2.kQ h
theorem zA{f:Sg->R Bool}(h:PTf X c E a f):PWf X c E (.BoolOp .Or [a] pos) f:=L2.zA h
theorem lM{f g:Sg->R Bool}{rest:List Expr}(h:PTf X c E a f)(h2:PWf X c E (.BoolOp .And (b::rest) pos) g):PWf X c E (.BoolOp .And (a::b::rest) pos) (gP f g):=PW.imp (L2.lM h h2) fun _ _ _ q=>aPZ q
theorem aDA{f g:Sg->R Bool}{rest:List Expr}(h:PTf X c E a f)(h2:PWf X c E (.BoolOp .Or (b::rest) pos) g):PWf X c E (.BoolOp .Or (a::b::rest) pos) (bOr f g):=PW.imp (L2.aDA h h2) fun _ _ _ q=>tor q
theorem t5{f:Sg->R Bool}(h:PTf X c E a f):PTf X c E (.UnaryOp .Not a pos) (aAC f):=PT.imp (L2.t5 h) fun σ H Q ⟨ρ,F,ab,k⟩=>⟨ρ,F,ab,(Rk.bind k).imp fun b _ q F' H' s=>Rk.ok q F' H' s⟩
noncomputable def aAD(f g:Sg->R PyData):Sg->R PyData:=fun ρ=>(f ρ).bind fun x=>(asB x).bind fun b=>if b=true then g ρ else .ok (.bool false)
def eOr(f g:Sg->R PyData):Sg->R PyData:=fun ρ=>(f ρ).bind fun x=>(asB x).bind fun b=>if b=true then .ok (.bool true) else g ρ
def aP0(f:Sg->R PyData):Sg->R PyData:=fun ρ=>(f ρ).bind fun x=>(asB x).bind fun b=>.ok (.bool (!b))
def eIf{α:Type}(t:Sg->R Bool)(f g:Sg->R α):Sg->R α:=fun ρ=>(t ρ).bind fun b=>if b=true then f ρ else g ρ
theorem aAE{op}{f:Sg->R PyData}(h:PD X c E a f):PD X c E (.BoolOp op [a] pos) f:=aL2 h
theorem aAF{f g:Sg->R PyData}{rest:List Expr}(h:PD X c E a f)(h2:PD X c E (.BoolOp .And (b::rest) pos) g):PD X c E (.BoolOp .And (a::b::rest) pos) (aAD f g):=PE.imp (aL3 h h2) fun σ H Q zz0=>by
 obtain ⟨ρ,F,ab,k⟩:=zz0
 refine ⟨ρ,F,ab,(Rk.bind k).imp fun d _ q v F' H' s r=>?_⟩
 cases d with
 | bool b=>
  refine ⟨b,DatV.bl_of r,?_⟩
  cases b with
  | true=>exact qE ⟨ρ,F',ab.ext s,(Rk.ext s q).imp fun d _ z v F2 H2 s2=>z v F2 H2 (s.trans s2)⟩
  | false=>exact qD (Rk.ok q (.bl false) F' H' s (.bl false))
 | _=>exact False.elim q
theorem aOS{t:Sg->R Bool}{f g:Sg->R PyData}{q:Expr}(hq:PTf X c E q t)(h:PD X c E a f)(h2:PD X c E b g):PD X c E (.IfExp q a b pos) (eIf t f g):=PE.imp (aGT hq h h2) fun σ H Q zz0=>by
 obtain ⟨ρ,F,ab,k⟩:=zz0
 refine ⟨ρ,F,ab,(Rk.bind k).imp fun b _ q F' H' s=>?_⟩
 cases b with
 | true=>exact qE ⟨ρ,F',ab.ext s,(Rk.ext s q).imp fun d _ z v F2 H2 s2=>z v F2 H2 (s.trans s2)⟩
 | false=>exact qD ⟨ρ,F',ab.ext s,(Rk.ext s q).imp fun d _ z v F2 H2 s2=>z v F2 H2 (s.trans s2)⟩
noncomputable def eCh(g g':PyData->PyData->R PyData)(fa fb fc:Sg->R PyData):Sg->R PyData:=fun ρ=>(fa ρ).bind fun x=>(fb ρ).bind fun y=>(g x y).bind fun z=>(asB z).bind fun k=>if k=true then (fc ρ).bind fun w=>g' y w else .ok (.bool false)
end
end Fl
namespace Fl
open PySem L2 PyProof.Rows
def AFs(g:Gb)(K:Frag)(mg:Str->Option Value)(F:Hp):List A->List V->Prop
 | [],[]=>True
 | a::as,v::vs=>AF g K mg F a v/\AFs g K mg F as vs
 | _,_=>False
theorem AFs.same{g:Gb}{K:Frag}{mg:Str->Option Value}{F F':Hp}(s:aR F F'):∀ {as:List A} {vs:List V},AFs g K mg F as vs->AFs g K mg F' as vs
 | [],[],_=>trivial
 | a::as,v::vs,h=>⟨AF.same s h.1,AFs.same s h.2⟩
theorem AFs.len{g:Gb}{K:Frag}{mg:Str->Option Value}{F:Hp}:∀ {as:List A} {vs:List V},AFs g K mg F as vs->vs.length=as.length
 | [],[],_=>rfl
 | a::as,v::vs,h=>by rw[List.length_cons,List.length_cons,AFs.len h.2]
theorem PA.imp{X:Cx}{es:List Expr}{t t':TA}(h:PA X es t)(i:∀ σ H Q,t' σ H Q->t σ H Q):PA X es t':=fun pos pins s σ H Q I q=>h pos pins s σ H Q I (i σ H Q q)
def tAd(c:Ct)(E:XK)(f:Sg->R (List PyData)):TA:=fun σ H Q=>∃ ρ F,Ab c ρ σ F H/\Rk c E F H (f ρ) fun ds=>∀ vs F' H',Ext F H F' H'->DatVs c.K F' vs ds->Q vs H'
def tAv(c:Ct)(E:XK)(f:Sg->R (List A)):TA:=fun σ H Q=>∃ ρ F,Ab c ρ σ F H/\Rk c E F H (f ρ) fun ds=>∀ vs F' H',Ext F H F' H'->AFs c.g c.K c.mg F' ds vs->Q vs H'
abbrev PAd(X:Cx)(c:Ct)(E:XK)(es:List Expr)(f:Sg->R (List PyData)):Prop:=PA X es (tAd c E f)
abbrev PAv(X:Cx)(c:Ct)(E:XK)(es:List Expr)(f:Sg->R (List A)):Prop:=PA X es (tAv c E f)
noncomputable def aO{α:Type}:Sg->R (List α):=fun _=>.ok []
def aB{α:Type}(f:Sg->R α)(g:Sg->R (List α)):Sg->R (List α):=fun ρ=>(f ρ).bind fun x=>(g ρ).bind fun xs=>.ok (x::xs)
section
variable{X:Cx}{c:Ct}{E:XK}{e a b:Expr}{es:List Expr}{pos:Pos}
theorem bH:PAd X c E [] aO:=PA.imp aU fun σ H Q ⟨ρ,F,ab,k⟩=>Rk.ok k [] F H (Ext.refl ab.fh) .nil
theorem bF:PAv X c E [] aO:=PA.imp aU fun σ H Q ⟨ρ,F,ab,k⟩=>Rk.ok k [] F H (Ext.refl ab.fh) trivial
theorem aK{f:Sg->R PyData}{g:Sg->R (List PyData)}(h:PD X c E e f)(h2:PAd X c E es g)(hs:starEach (e::es) X.env=(false,eval e X.env)::starEach es X.env:=by rfl):PAd X c E (e::es) (aB f g):=PA.imp (aJ h h2 hs) fun σ H Q zz0=>by
 obtain ⟨ρ,F,ab,k⟩:=zz0
 refine ⟨ρ,F,ab,(Rk.bind k).imp fun x _ q v F1 H1 s1 r1=>⟨ρ,F1,ab.ext s1,((Rk.bind q).ext s1).imp fun xs _ q vs F2 H2 s2 r2=>?_⟩⟩
 exact Rk.ok q (v::vs) F2 H2 (s1.trans s2) (.cons (DatV.same s2.ff r1) r2)
theorem aE{f:Sg->R A}{g:Sg->R (List A)}(h:PV X c E e f)(h2:PAv X c E es g)(hs:starEach (e::es) X.env=(false,eval e X.env)::starEach es X.env:=by rfl):PAv X c E (e::es) (aB f g):=PA.imp (aJ h h2 hs) fun σ H Q zz0=>by
 obtain ⟨ρ,F,ab,k⟩:=zz0
 refine ⟨ρ,F,ab,(Rk.bind k).imp fun x _ q v F1 H1 s1 r1=>⟨ρ,F1,ab.ext s1,((Rk.bind q).ext s1).imp fun xs _ q vs F2 H2 s2 r2=>?_⟩⟩
 exact Rk.ok q (v::vs) F2 H2 (s1.trans s2) ⟨AF.same s2.ff r1,r2⟩
def cO(f:Sg->R (List PyData)):Sg->R PyData:=fun ρ=>(f ρ).bind fun xs=>if xs.length<=16777216 then .ok (.tuple xs) else .bad
def eP(f:Sg->R (List PyData)):Sg->R (List PyData):=fun ρ=>(f ρ).bind fun xs=>if xs.length<=16777216 then .ok xs else .bad
theorem dP:sizeLine=16777216:=sizeLine_eq
theorem c9{x1}{f:Sg->R (List PyData)}(h:PAd X c E es f):PD X c E (.Tuple es x1 pos) (cO f):=PE.imp (aMF h) fun σ H Q zz0=>by
 obtain ⟨ρ,F,ab,k⟩:=zz0
 refine ⟨ρ,F,ab,(Rk.bind k).imp fun xs _ q vs F1 H1 s1 r1=>?_⟩
 by_cases hz:xs.length<=16777216
 ·rw[if_pos hz] at q
  refine ⟨by rw[r1.length,dP];exact hz,fun p hp=>?_⟩
  exact Rk.ok q (.ref p) _ _ (s1.trans (Ext.new s1.fh hp)) (.tup (SqT.of aY) (r1.same (aR.upd (bT s1.fh hp))))
 ·rw[if_neg hz] at q;exact q.elim
theorem fD{f:Sg->R (List PyData)}(h:PAd X c E es f):PN X c E (.List es pos) (eP f):=PE.imp (aEZ h) fun σ H Q zz0=>by
 obtain ⟨ρ,F,ab,k⟩:=zz0
 refine ⟨ρ,F,ab,(Rk.bind k).imp fun xs _ q vs F1 H1 s1 r1=>?_⟩
 by_cases hz:xs.length<=16777216
 ·rw[if_pos hz] at q
  refine ⟨by rw[r1.length,dP];exact hz,fun p hp=>?_⟩
  exact Rk.ok q (.ref p) _ _ (s1.trans (Ext.own s1.fh hp)) ⟨p,vs,rfl,bT s1.hh hp,aY,bT s1.fh hp,r1⟩
 ·rw[if_neg hz] at q;exact q.elim
noncomputable def dLen:PyData->R PyData
 | .str z=>if z.length<=16777216 then .ok (.int z.length) else .bad
 | .list xs=>.ok (.int xs.length)
 | .tuple xs=>.ok (.int xs.length)
 | _=>.bad
theorem plain_len:mI dLen:=by intro a e h;unfold dLen at h;split at h<;>(try split at h)<;>cases h
theorem cU{fa:Sg->R PyData}(hK:X.K=c.K)(h0:PE X e (tCB (fun xs H Q=>∃ x n,xs=[x]/\aMC X.K x H n/\Q (.int n) H) (dY (tV (bD c) c E fa) gG))):PD X c E e (e1 dLen fa):=
 PE.imp h0 fun σ H Q h=>by
  obtain ⟨ρ,F,ab,k⟩:=tV1 (Ra:=bD c) uK plain_len (l3 c) h
  refine ⟨ρ,F,ab,k.imp fun d _ q v F' H' s r=>?_⟩
  obtain ⟨H0,F1,a,d',sf,ra,eg,q⟩:=q v F' H' s r
  unfold dLen at eg
  split at eg
  ·rename_i z
   split at eg
   ·rename_i hz
    cases eg
    obtain rfl:=a9.str_of ra
    exact ⟨_,_,rfl,⟨by rw[dP];exact hz,rfl⟩,q _ F1 H' (Ext.refl sf) (.int _)⟩
   ·cases eg
  ·cases eg
   obtain ⟨p,vs,rfl,h1,h2⟩:=a9.lst_of sf ra
   rw[<-hK] at h1
   exact ⟨_,vs.length,rfl,.inl ⟨vs,h1,rfl⟩,q _ F1 H' (Ext.refl sf) (by rw[h2.length];exact .int _)⟩
  ·cases eg
   obtain ⟨p,vs,rfl,_,h1,h2⟩:=a9.tup_of sf ra
   rw[<-hK] at h1
   exact ⟨_,vs.length,rfl,.inr ⟨vs,h1,rfl⟩,q _ F1 H' (Ext.refl sf) (by rw[h2.length];exact .int _)⟩
  ·cases eg
noncomputable def dTup:PyData->R PyData
 | .list xs=>.ok (.tuple xs)
 | .tuple xs=>.ok (.tuple xs)
 | _=>.bad
theorem aFR:mI dTup:=by intro a e h;unfold dTup at h;split at h<;>cases h
theorem gH{fa:Sg->R PyData}(hK:X.K=c.K)(h0:PE X e (tCB (fun xs H Q=>∃ p ys,xs=[.ref p]/\((SqL X.K H p ys/\∀ l,H l=none->Q (.ref l) (upd H l (.tup ys)))\/(SqT X.K H p ys/\Q (.ref p) H))) (dY (tV (bD c) c E fa) gG))):PD X c E e (e1 dTup fa):=
 PE.imp h0 fun σ H Q h=>by
  obtain ⟨ρ,F,ab,k⟩:=tV1 (Ra:=bD c) uK aFR (l3 c) h
  refine ⟨ρ,F,ab,k.imp fun d _ q v F' H' s r=>?_⟩
  obtain ⟨H0,F1,a,d',sf,ra,eg,q⟩:=q v F' H' s r
  unfold dTup at eg
  split at eg
  ·cases eg
   obtain ⟨p,vs,rfl,h1,h2⟩:=a9.lst_of sf ra
   rw[<-hK] at h1
   exact ⟨p,vs,rfl,.inl ⟨h1,fun l hl=>q _ _ _ (Ext.new sf hl) (.tup (SqT.of aY) (h2.same (aR.upd (bT sf hl))))⟩⟩
  ·cases eg
   obtain ⟨p,vs,rfl,f1,h1,h2⟩:=a9.tup_of sf ra
   rw[<-hK] at h1
   exact ⟨p,vs,rfl,.inr ⟨h1,q _ F1 H' (Ext.refl sf) (.tup f1 h2)⟩⟩
  ·cases eg
noncomputable def dLst:PyData->R (List PyData)
 | .list xs=>.ok xs
 | .tuple xs=>.ok xs
 | _=>.bad
theorem aFS:mI dLst:=by intro a e h;unfold dLst at h;split at h<;>cases h
theorem rW{fa:Sg->R PyData}(hK:X.K=c.K)(h0:PE X e (tCB (fun xs H Q=>∃ p ys,xs=[.ref p]/\(SqL X.K H p ys\/SqT X.K H p ys)/\∀ l,H l=none->Q (.ref l) (upd H l (.lst ys))) (dY (tV (bD c) c E fa) gG))):PN X c E e (e1 dLst fa):=
 PE.imp h0 fun σ H Q h=>by
  obtain ⟨ρ,F,ab,k⟩:=tV1 (Ra:=bD c) uK aFS (aJC c) h
  refine ⟨ρ,F,ab,k.imp fun d _ q v F' H' s r=>?_⟩
  obtain ⟨H0,F1,a,d',sf,ra,eg,q⟩:=q v F' H' s r
  unfold dLst at eg
  split at eg
  ·cases eg
   obtain ⟨p,vs,rfl,h1,h2⟩:=a9.lst_of sf ra
   rw[<-hK] at h1
   exact ⟨p,vs,rfl,.inl h1,fun l hl=>q _ _ _ (Ext.own sf hl) ⟨l,vs,rfl,hl,aY,bT sf hl,h2⟩⟩
  ·cases eg
   obtain ⟨p,vs,rfl,f1,h1,h2⟩:=a9.tup_of sf ra
   rw[<-hK] at h1
   exact ⟨p,vs,rfl,.inr h1,fun l hl=>q _ _ _ (Ext.own sf hl) ⟨l,vs,rfl,hl,aY,bT sf hl,h2⟩⟩
  ·cases eg
noncomputable def dInt:PyData->R PyData
 | .int i=>.ok (.int i)
 | .bool b=>.ok (.int (if b=true then 1 else 0))
 | _=>.bad
theorem aFT:mI dInt:=by intro a e h;unfold dInt at h;split at h<;>cases h
theorem rX{fa:Sg->R PyData}(h0:PE X e (tCB (fun xs H Q=>(∃ i,xs=[.int i]/\Q (.int i) H)\/∃ k,xs=[.bl k]/\Q (.int (if k then 1 else 0)) H) (dY (tV (bD c) c E fa) gG))):PD X c E e (e1 dInt fa):=
 PE.imp h0 fun σ H Q h=>by
  obtain ⟨ρ,F,ab,k⟩:=tV1 (Ra:=bD c) uK aFT (l3 c) h
  refine ⟨ρ,F,ab,k.imp fun d _ q v F' H' s r=>?_⟩
  obtain ⟨H0,F1,a,d',sf,ra,eg,q⟩:=q v F' H' s r
  unfold dInt at eg
  split at eg
  ·cases eg
   obtain rfl:=a9.int_of ra
   exact .inl ⟨_,rfl,q _ F1 H' (Ext.refl sf) (.int _)⟩
  ·rename_i b
   cases eg
   obtain rfl:=a9.bl_of ra
   exact .inr ⟨b,rfl,q _ F1 H' (Ext.refl sf) (by cases b<;>exact .int _)⟩
  ·cases eg
noncomputable def aOT:List PyData->Option (List Bool)
 | []=>some []
 | .bool b::t=>(aOT t).map (b :: ·)
 | _=>none
end
end Fl
namespace Fl
open PySem L2 PyProof.Rows
inductive Fw where
 | nx (ρ:Sg)|bk (ρ:Sg)|ct (ρ:Sg)|rt (a:A)
def AR(g:Gb)(K:Frag)(mg:Str->Option Value)(H F' H':Hp):A->V->Prop
 | .l xs,v=>∃ p us,v=.ref p/\H p=none/\H' p=some (.lst us)/\F' p=none/\DatVs K F' us xs
 | a,v=>AF g K mg F' a v
theorem AR.of{g:Gb}{K:Frag}{mg:Str->Option Value}{H F' H':Hp}{a:A}{v:V}(h:AF g K mg F' a v):AR g K mg H F' H' a v:=by
 cases a with
 | l xs=>exact False.elim h
 | _=>exact h
def iK(c:Ct)(F:Hp)(D:iD):Fw->Prop
 | .nx ρ=>∀ σ' F' H',aR F F'->Ab c ρ σ' F' H'->D.nx σ' H'
 | .bk ρ=>∀ σ' F' H',aR F F'->Ab c ρ σ' F' H'->D.bk σ' H'
 | .ct ρ=>∀ σ' F' H',aR F F'->Ab c ρ σ' F' H'->D.ct σ' H'
 | .rt a=>∀ v F' H',Ext c.F0 c.H0 F' H'->AR c.g c.K c.mg c.H0 F' H' a v->D.rt v H'
theorem iK.same{c:Ct}{F F1:Hp}{D:iD}(s:aR F F1):∀ {w:Fw},iK c F D w->iK c F1 D w
 | .nx ρ,h=>fun σ' F' H' s' ab=>h σ' F' H' (fun a o z=>s' a o (s a o z)) ab
 | .bk ρ,h=>fun σ' F' H' s' ab=>h σ' F' H' (fun a o z=>s' a o (s a o z)) ab
 | .ct ρ,h=>fun σ' F' H' s' ab=>h σ' F' H' (fun a o z=>s' a o (s a o z)) ab
 | .rt a,h=>h
def tSf(c:Ct)(E:XK)(f:Sg->R Fw):TS:=fun D σ H=>∃ ρ F,Ab c ρ σ F H/\Rk c E F H (f ρ) (iK c F D)
abbrev PSf(X:Cx)(c:Ct)(E:XK)(st:Stmt)(f:Sg->R Fw):Prop:=PS X st (tSf c E f)
abbrev mN(X:Cx)(c:Ct)(E:XK)(st:List Stmt)(f:Sg->R Fw):Prop:=PSs X st (tSf c E f)
theorem get_set{α:Type}{l:List α}{i j:Nat}{x y:α}(h:(l.set i x)[j]? = some y):(i=j/\y=x/\i < l.length)\/(i≠j/\l[j]? = some y):=by
 by_cases e:i=j
 ·subst e
  by_cases hl:i < l.length
  · rw [List.getElem?_set_self hl] at h; exact .inl ⟨rfl, (Option.some.inj h).symm, hl⟩
  · rw [List.getElem?_eq_none_iff.mpr (by rw [List.length_set]; omega)] at h; cases h
 ·rw[List.getElem?_set_ne e] at h;exact .inr ⟨e,h⟩
theorem Ab.setF{c:Ct}{ρ:Sg}{σ:L2.St}{F H:Hp}{i:Nat}{a:A}{v:V}(b:Ab c ρ σ F H)(ha:AO c F H a v)(hn:a.own=true->∀ (j:Nat) (a':A),j≠i->ρ[j]? = some (some a')->a'.own=true->σ[j]? ≠ some (some v)):Ab c (ρ.set i (some a)) (σ.set i (some v)) F H where
 len:=by rw[List.length_set,List.length_set];exact b.len
 fh:=b.fh
 slot:=fun j a' h=>by
  rcases get_set h with ⟨e,q,hl⟩|⟨ne,q⟩
  ·subst e
   cases q
   exact ⟨v,List.getElem?_set_self (by rw[<-b.len];exact hl),ha⟩
  ·rw[List.getElem?_set_ne ne];exact b.slot j a' q
 apart:=fun j k a' b' hjk h1 h2 o1 o2=>by
  rcases get_set h1 with ⟨e,q,hl⟩|⟨ne,q⟩
  ·subst e
   cases q
   rcases get_set h2 with ⟨e',q',hl'⟩|⟨ne',q'⟩
   ·exact absurd e' hjk
   ·rw[List.getElem?_set_self (by rw[<-b.len];exact hl),List.getElem?_set_ne ne']
    exact (hn o1 k b' (Ne.symm hjk) q' o2).symm
  ·rcases get_set h2 with ⟨e',q',hl'⟩|⟨ne',q'⟩
   ·subst e'
    cases q'
    rw[List.getElem?_set_self (by rw[<-b.len];exact hl'),List.getElem?_set_ne ne]
    exact hn o2 j a' hjk q o1
   ·rw[List.getElem?_set_ne ne,List.getElem?_set_ne ne']
    exact b.apart j k a' b' hjk q q' o1 o2
 f0:=b.f0
 h0:=b.h0
 n0:=b.n0
 t0:=b.t0
theorem AO.of{c:Ct}{F H:Hp}:∀ {a:A} {v:V},AF c.g c.K c.mg F a v->AO c F H a v
 | .d x,v,h=>h
 | .x e,v,h=>h
 | .g k n G,v,h=>h
 | .f kvs,v,h=>h
 | .o e,v,h=>h
theorem AF.notOwn{g:Gb}{K:Frag}{mg:Str->Option Value}{F:Hp}:∀ {a:A} {v:V},AF g K mg F a v->a.own=false
 | .d x,v,h=>rfl
 | .x e,v,h=>rfl
 | .g k n G,v,h=>rfl
 | .f kvs,v,h=>rfl
 | .o e,v,h=>rfl
theorem Ab.setA{c:Ct}{ρ:Sg}{σ:L2.St}{F H:Hp}{i:Nat}{a:A}{v:V}(b:Ab c ρ σ F H)(ha:AF c.g c.K c.mg F a v):Ab c (ρ.set i (some a)) (σ.set i (some v)) F H:=
 b.setF (AO.of ha) fun z=>by rw[AF.notOwn ha] at z;cases z
theorem Ab.setN{c:Ct}{ρ:Sg}{σ:L2.St}{F H F' H':Hp}{i:Nat}{xs:List PyData}{v:V}(b:Ab c ρ σ F H)(e:Ext F H F' H')(h:tF c xs v H F' H'):Ab c (ρ.set i (some (.l xs))) (σ.set i (some v)) F' H':=by
 obtain ⟨p,vs,rfl,h1,h2,h3,h4⟩:=h
 refine (b.ext e).setF ⟨p,vs,rfl,h2,h3,bT b.h0 h1,h4⟩ fun _ j a' _ ha' ho=>?_
 obtain ⟨w,hw,q⟩:=b.slot j a' ha'
 rw[hw]
 intro z
 cases z
 obtain ⟨p',o',e',q1,_⟩:=q.at ho
 cases e'
 rw[h1] at q1
 cases q1
theorem Ab.putO{c:Ct}{ρ:Sg}{σ:L2.St}{F H:Hp}{i:Nat}{a a':A}{p:Addr}{o:HO}(b:Ab c ρ σ F H)(hi:ρ[i]? = some (some a))(ho:a.own=true)(hp:σ[i]? = some (some (.ref p)))(ho':a'.own=true)(hy:AO c F (upd H p o) a' (.ref p)) :
  Ab c (ρ.set i (some a')) σ F (upd H p o):=by
 obtain ⟨v,h1,q⟩:=b.slot i _ hi
 rw[hp] at h1
 cases h1
 obtain ⟨p',o',e',h2,h3,h4⟩:=q.at ho
 cases e'
 have other:∀ (j:Nat) (a:A) (w:V),j≠i->ρ[j]? = some (some a)->σ[j]? = some (some w)->AO c F H a w->AO c F (upd H p o) a w:=by
  intro j a2 w hj ha hw q2
  by_cases own:a2.own=true
  ·refine q2.off fun z=>?_
   subst z
   exact b.apart j i _ _ hj ha hi own ho (by rw[hw,hp])
  ·cases a2 with
   | l zs=>exact absurd rfl own
   | m zs=>exact absurd rfl own
   | d x=>exact q2
   | x e=>exact q2
   | g k n f=>exact q2
   | k S=>exact q2
   | f S=>exact q2
   | o S=>exact q2
 exact {
  len:=by rw[List.length_set];exact b.len
  fh:=fun a o z=>by rw[aP (fun w=>by subst w;rw[h3] at z;cases z)];exact b.fh a o z
  slot:=fun j a h=>by
   rcases get_set h with ⟨e,q,hl⟩|⟨ne,q⟩
   ·subst e
    cases q
    exact ⟨_,hp,hy⟩
   ·obtain ⟨w,hw,q2⟩:=b.slot j a q
    exact ⟨w,hw,other j a w (Ne.symm ne) q hw q2⟩
  apart:=fun j k a' b' hjk h1 h2 o1 o2=>by
   rcases get_set h1 with ⟨e,q,hl⟩|⟨ne,q⟩
   ·subst e
    cases q
    rcases get_set h2 with ⟨e',q',hl'⟩|⟨ne',q'⟩
    ·exact absurd e' hjk
    ·exact b.apart _ k _ b' hjk hi q' ho o2
   ·rcases get_set h2 with ⟨e',q',hl'⟩|⟨ne',q'⟩
    ·subst e'
     exact b.apart j _ a' _ hjk q hi o1 ho
    ·exact b.apart j k a' b' hjk q q' o1 o2
  f0:=b.f0
  h0:=fun a o z=>by rw[aP (fun w=>by subst w;rw[h4] at z;cases z)];exact b.h0 a o z
  n0:=b.n0
  t0:=b.t0}
theorem Ab.putL{c:Ct}{ρ:Sg}{σ:L2.St}{F H:Hp}{i:Nat}{xs ys:List PyData}{p:Addr}{vs:List V}(b:Ab c ρ σ F H)(hi:ρ[i]? = some (some (.l xs)))(hp:σ[i]? = some (some (.ref p)))(hy:DatVs c.K F vs ys) :
  Ab c (ρ.set i (some (.l ys))) σ F (upd H p (.lst vs)):=by
 obtain ⟨v,h1,p',us,rfl,h2,h3,h4,h5⟩:=b.slot i _ hi
 rw[hp] at h1
 cases h1
 exact b.putO hi rfl hp rfl ⟨p,vs,rfl,aY,h3,h4,hy⟩
theorem Ab.putM{c:Ct}{ρ:Sg}{σ:L2.St}{F H:Hp}{i:Nat}{kvs kvs':List (PyData×PyData)}{p:Addr}{es:List Ent}{ep:Nat}(b:Ab c ρ σ F H)(hi:ρ[i]? = some (some (.m kvs)))(hp:σ[i]? = some (some (.ref p)))(hy:MapRel c.K F es kvs') :
  Ab c (ρ.set i (some (.m kvs'))) σ F (upd H p (kA c.w p es ep)):=by
 obtain ⟨v,h1,p',us,rfl,h2,h3,h4,h5⟩:=b.slot i _ hi
 rw[hp] at h1
 cases h1
 exact b.putO hi rfl hp rfl ⟨p,es,rfl,⟨ep,aY⟩,h3,h4,hy⟩
theorem Ab.setM{c:Ct}{ρ:Sg}{σ:L2.St}{F H F' H':Hp}{i:Nat}{kvs:List (PyData×PyData)}{p:Addr}{es:List Ent}{ep:Nat}(b:Ab c ρ σ F H)(e:Ext F H F' H')(h1:H p=none)(h2:H' p=some (kA c.w p es ep))(h3:F' p=none)(h4:MapRel c.K F' es kvs):Ab c (ρ.set i (some (.m kvs))) (σ.set i (some (.ref p))) F' H':=by
 refine (b.ext e).setF ⟨p,es,rfl,⟨ep,h2⟩,h3,bT b.h0 h1,h4⟩ fun _ j a' _ ha' ho=>?_
 obtain ⟨w,hw,q⟩:=b.slot j a' ha'
 rw[hw]
 intro z
 cases z
 obtain ⟨p',o',e',q1,_⟩:=q.at ho
 cases e'
 rw[h1] at q1
 cases q1
noncomputable def fz(i:Nat)(ρ:Sg):Sg:=match ρ[i]? with
 | some (some (.l xs))=>ρ.set i (some (.d (.list xs)))
 | _=>ρ
theorem Ab.publ{c:Ct}{ρ:Sg}{σ:L2.St}{F H:Hp}{i:Nat}{a0 a1:A}{p:Addr}{o:HO}(b:Ab c ρ σ F H)(hi:ρ[i]? = some (some a0))(hp:σ[i]? = some (some (.ref p)))(ow:a0.own=true)(h2:H p=some o)(h3:F p=none)(h4:c.H0 p=none)(no:a1.own=false)(hr:AO c (upd F p o) H a1 (.ref p)):Ab c (ρ.set i (some a1)) σ (upd F p o) H:=by
 have sf:aR F (upd F p o):=aR.upd h3
 exact {
  len:=by rw[List.length_set];exact b.len
  fh:=fun a o' z=>by
   by_cases w:a=p
   ·subst w;rw[aY] at z;rw[h2];exact z
   ·rw[aP w] at z;exact b.fh a o' z
  slot:=fun j a h=>by
   rcases get_set h with ⟨e,q,hl⟩|⟨ne,q⟩
   ·subst e
    cases q
    exact ⟨_,hp,hr⟩
   ·obtain ⟨w,hw,q2⟩:=b.slot j a q
    refine ⟨w,hw,?_⟩
    have off:∀ r,a.own=true->w=.ref r->F r=none->upd F p o r=none:=fun r oa e f=>by
     rw[aP]
     ·exact f
     ·intro z
      subst z
      exact b.apart j i _ _ (Ne.symm ne) q hi oa ow (by rw[hw,hp,e])
    cases a with
    | l zs=>obtain ⟨r,ws,e,q1,q2,q3,q4⟩:=q2;exact ⟨r,ws,e,q1,off r rfl e q2,q3,q4.same sf⟩
    | m kvs=>obtain ⟨r,ws,e,q1,q2,q3,q4⟩:=q2;exact ⟨r,ws,e,q1,off r rfl e q2,q3,q4.same sf⟩
    | d x=>exact DatV.same sf q2
    | x e=>exact AF.same (g:=c.g) (K:=c.K) (mg:=c.mg) (a:=.x e) sf q2
    | g k n f=>exact AF.same (g:=c.g) (K:=c.K) (mg:=c.mg) (a:=.g k n f) sf q2
    | k S=>obtain ⟨S,f,cl,doc,pm,cc,ct,h0,h1,h2,h3,h4⟩:=q2;exact ⟨S,f,cl,doc,pm,cc,ct,h0,h1,sf _ _ h2,sf _ _ h3,h4⟩
    | f kvs=>exact AF.same (g:=c.g) (K:=c.K) (mg:=c.mg) (a:=.f kvs) sf q2
    | o e=>exact AF.same (g:=c.g) (K:=c.K) (mg:=c.mg) (a:=.o e) sf q2
  apart:=fun j k a' b' hjk h1 h2 o1 o2=>by
   rcases get_set h1 with ⟨e,q,hl⟩|⟨ne,q⟩
   ·cases q;rw[no] at o1;cases o1
   ·rcases get_set h2 with ⟨e',q',hl'⟩|⟨ne',q'⟩
    ·cases q';rw[no] at o2;cases o2
    ·exact b.apart j k a' b' hjk q q' o1 o2
  f0:=fun a o z=>sf a o (b.f0 a o z)
  h0:=b.h0
  n0:=fun a z n=>by
   by_cases w:a=p
   ·subst w;exact .inl h4
   ·rw[aP w] at n;exact b.n0 a z n
  t0:=b.t0}
theorem Ab.frz{c:Ct}{ρ:Sg}{σ:L2.St}{F H:Hp}(b:Ab c ρ σ F H)(i:Nat):∃ F',aR F F'/\Ab c (fz i ρ) σ F' H:=by
 unfold fz
 split
 ·rename_i xs hi
  obtain ⟨v,hp,p,vs,rfl,h2,h3,h4,h5⟩:=b.slot i _ hi
  exact ⟨_,aR.upd h3,b.publ hi hp rfl h2 h3 h4 rfl (.lst (SqL.of aY) (h5.same (aR.upd h3)))⟩
 ·exact ⟨F,cQ F,b⟩
noncomputable def aOU:PyData->PyData->R PyData
 | .int i,.int j=>.ok (.int (i+j))
 | _,_=>.bad
section
variable{X:Cx}{c:Ct}{E:XK}{e a b:Expr}{st:Stmt}{rest:List Stmt}{pos:Pos}
def sFz(i:Nat)(f:Sg->R Fw):Sg->R Fw:=fun ρ=>f (fz i ρ)
theorem yV(i:Nat){f:Sg->R Fw}(h:PSf X c E st f):PSf X c E st (sFz i f):=PS.imp h fun D σ H zz0=>by
 obtain ⟨ρ,F,ab,k⟩:=zz0
 obtain ⟨F',s,ab'⟩:=ab.frz i
 refine ⟨fz i ρ,F',ab',?_⟩
 have k':Rk c E F H (f (fz i ρ)) (iK c F D):=k
 cases q:f (fz i ρ) with
 | bad=>rw[q] at k';exact k'
 | ok w=>rw[q] at k';exact iK.same s k'
 | ex e=>rw[q] at k';exact k'
noncomputable def sNx:Sg->R Fw:=fun ρ=>.ok (.nx ρ)
def aH(f g:Sg->R Fw):Sg->R Fw:=fun ρ=>(f ρ).bind fun w=>match w with
 | .nx ρ'=>g ρ'
 | w=>.ok w
theorem cK:mN X c E [] sNx:=PSs.imp L2.cK fun D σ H ⟨ρ,F,ab,k⟩=>Rk.ok k σ F H (cQ F) ab
theorem aS{f:Sg->R Fw}(h:PSf X c E st f):mN X c E [st] f:=L2.aS h
theorem aF{f g:Sg->R Fw}(h:PSf X c E st f)(h2:mN X c E rest g):mN X c E (st::rest) (aH f g):=PSs.imp (L2.aF h h2) fun D σ H zz0=>by
 obtain ⟨ρ,F,ab,k⟩:=zz0
 refine ⟨ρ,F,ab,(Rk.bind k).imp fun w _ q=>?_⟩
 cases w with
 | nx ρ'=>
  intro σ' F' H' s ab'
  refine ⟨ρ',F',ab',?_⟩
  have q':Rk c E F H (g ρ') (iK c F D):=q
  cases eg:g ρ' with
  | bad=>rw[eg] at q';exact q'
  | ok w=>rw[eg] at q';exact iK.same s q'
  | ex e=>rw[eg] at q';exact q'
 | bk ρ'=>exact q
 | ct ρ'=>exact q
 | rt a=>exact q
def bN(f:Sg->R A):Sg->R Fw:=fun ρ=>(f ρ).bind fun a=>.ok (.rt a)
theorem bK{f:Sg->R A}(h:PV X c E e f):PSf X c E (.Return (some e) pos) (bN f):=PS.imp (L2.bK h) fun D σ H ⟨ρ,F,ab,k⟩=>
 ⟨ρ,F,ab,(Rk.bind k).imp fun a _ q v F' H' s r=>Rk.ok q v F' H' (ab.all.trans s) (AR.of r)⟩
noncomputable def aOV:Sg->R Fw:=fun _=>.ok (.rt (.d .none))
def sIf(t:Sg->R Bool)(f g:Sg->R Fw):Sg->R Fw:=fun ρ=>(t ρ).bind fun b=>if b=true then f ρ else g ρ
theorem Rk.fw{F F1 H H1:Hp}{D:iD}{r:R Fw}(s:aR F F1)(k:Rk c E F H r (iK c F D)):Rk c E F1 H1 r (iK c F1 D):=by
 cases r with
 | bad=>exact k
 | ok w=>exact iK.same s k
 | ex e=>exact k
theorem dJ{q:Expr}{sa sb:List Stmt}{t:Sg->R Bool}{f g:Sg->R Fw}(hq:PTf X c E q t)(ha:mN X c E sa f)(hb:mN X c E sb g):PSf X c E (.If q sa sb pos) (sIf t f g):=PS.imp (L2.dJ hq ha hb) fun D σ H zz0=>by
 obtain ⟨ρ,F,ab,k⟩:=zz0
 refine ⟨ρ,F,ab,(Rk.bind k).imp fun b _ q F' H' s=>?_⟩
 cases b with
 | true=>exact qE ⟨ρ,F',ab.ext s,Rk.fw s.ff q⟩
 | false=>exact qD ⟨ρ,F',ab.ext s,Rk.fw s.ff q⟩
def bB(i:Nat)(f:Sg->R A):Sg->R Fw:=fun ρ=>(f ρ).bind fun a=>.ok (.nx (ρ.set i (some a)))
theorem aN{i:Nat}{f:Sg->R A}(h:PS X st (jR (tV (aD4 c) c E f) (jN i))):PSf X c E st (bB i f):=PS.imp h fun D σ H ⟨ρ,F,ab,k⟩=>
 ⟨ρ,F,ab,(Rk.bind k).imp fun a _ q v F' H' s r=>Rk.ok q _ F' H' s.ff ((ab.ext s).setA r)⟩
def eH(i:Nat)(f:Sg->R (List PyData)):Sg->R Fw:=fun ρ=>(f ρ).bind fun xs=>.ok (.nx (ρ.set i (some (.l xs))))
theorem iS{i:Nat}{f:Sg->R (List PyData)}(h:PS X st (jR (tV (tF c) c E f) (jN i))):PSf X c E st (eH i f):=PS.imp h fun D σ H ⟨ρ,F,ab,k⟩=>
 ⟨ρ,F,ab,(Rk.bind k).imp fun a _ q v F' H' s r=>Rk.ok q _ F' H' s.ff (ab.setN s r)⟩
def yW(f:Sg->R A):Sg->R Fw:=fun ρ=>(f ρ).bind fun _=>.ok (.nx ρ)
theorem dO{f:Sg->R A}(h:PS X st (oX (tV (aD4 c) c E f))):PSf X c E st (yW f):=PS.imp h fun D σ H ⟨ρ,F,ab,k⟩=>
 ⟨ρ,F,ab,(Rk.bind k).imp fun a _ q v F' H' s r=>Rk.ok q _ F' H' s.ff (ab.ext s)⟩
def g8(i:Nat)(f:Sg->R PyData):Sg->R Fw:=fun ρ=>match ρ[i]? with
 | some (some (.l xs))=>(f ρ).bind fun x=>if xs.length < 16777216 then .ok (.nx (ρ.set i (some (.l (xs++[x]))))) else .bad
 | _=>.bad
theorem oH{i:Nat}{f:Sg->R PyData}(hK:X.K=c.K)(h:PS X st (oX (tBM X.K "list" vT (gF i) (dY (tV (bZ c) c E f) gG)))):PSf X c E st (g8 i f):=PS.imp h fun D σ H ⟨ρ,F,ab,k⟩=>by
 unfold g8 at k
 split at k
 ·rename_i xs hi
  obtain ⟨v,hp,p,vs,rfl,h2,h3,h4,h5⟩:=ab.slot i _ hi
  refine ⟨_,hp,.inl ⟨rfl,vs,SqL.of h2⟩,ρ,F,ab,(Rk.bind k).imp fun x _ q u F1 H1 s1 r1=>?_⟩
  by_cases hz:xs.length < 16777216
  ·rw[if_pos hz] at q
   refine ⟨p,vs,u,rfl,rfl,s1.hh _ _ h2,by rw[h5.length,dP];exact hz,?_⟩
   exact Rk.ok q σ F1 _ s1.ff ((ab.ext s1).putL hi hp ((h5.same s1.ff).append (.cons r1 .nil)))
  ·rw[if_neg hz] at q;exact q.elim
 ·exact k.elim
def iC(i:Nat)(f g:Sg->R PyData):Sg->R Fw:=fun ρ=>(g ρ).bind fun x=>match ρ[i]? with
 | some (some (.l xs))=>(f ρ).bind fun k=>match k with
  | .int k=>match ixN xs.length k with
   | some j=>.ok (.nx (ρ.set i (some (.l (xs.set j x)))))
   | none=>.bad
  | _=>.bad
 | _=>.bad
theorem nP{K:Frag}{F:Hp}{x:V}{d:PyData}(h:DatV K F x d):∀ {vs:List V} {xs:List PyData} (j:Nat),DatVs K F vs xs->DatVs K F (vs.set j x) (xs.set j d)
 | _,_,_,.nil=>.nil
 | _,_,0,.cons _ t=>.cons h t
 | _,_,j+1,.cons q t=>.cons q (nP h j t)
theorem aM3{i:Nat}{f g:Sg->R PyData}(h:PS X st (jR (tV (bZ c) c E g) (sX (gF i) (tV (bD c) c E f) rO))):PSf X c E st (iC i f g):=PS.imp h fun D σ H ⟨ρ,F,ab,k⟩=>by
 refine ⟨ρ,F,ab,(Rk.bind k).imp fun x _ q v F1 H1 s1 r1=>?_⟩
 split at q
 ·rename_i xs hi
  have ab1:=ab.ext s1
  obtain ⟨_,hp,p,vs,rfl,h2,h3,h4,h5⟩:=ab1.slot i _ hi
  refine ⟨_,hp,ρ,F1,ab1,((Rk.bind q).ext s1).imp fun k _ q u F2 H2 s2 r2=>?_⟩
  have ab2:=ab1.ext s2
  cases k with
  | int kk=>
   have q':Rk c E F H (match ixN xs.length kk with|some j=>R.ok (.nx (ρ.set i (some (.l (xs.set j x)))))|none=>.bad) (iK c F D):=q
   clear q
   split at q'
   ·rename_i j hj
    obtain rfl:=a9.int_of r2
    refine ⟨p,vs,kk,j,rfl,rfl,s2.hh _ _ h2,by rw[h5.length];exact hj,?_⟩
    exact Rk.ok q' σ F2 _ (s1.trans s2).ff (ab2.putL hi hp (nP (DatV.same s2.ff r1) j (h5.same s2.ff)))
   ·exact q'.elim
  | _=>exact q.elim
 ·exact q.elim
def aP1(i:Nat)(g:PyData->PyData->R PyData)(f:Sg->R PyData):Sg->R Fw:=fun ρ=>(eV i ρ).bind fun x=>(f ρ).bind fun y=>(g x y).bind fun z=>.ok (.nx (ρ.set i (some (.d z))))
end
end Fl
namespace Fl
open PySem L2 PyProof.Rows
def Tg(c:Ct)(g:TG)(fs:PyData->Sg->Option Sg)(is:List Nat):Prop:=∀ (v:V) (x:PyData) (ρ ρ':Sg) (σ:L2.St) (F H:Hp) (Q:L2.St->Hp->Prop),Ab c ρ σ F H->DatV c.K F v x->fs x ρ=some ρ'->
 (∀ σ':L2.St,σ'.length=σ.length->(∀ j:Nat,j∉is->σ'[j]? = σ[j]?)->Ab c ρ' σ' F H->Q σ' H)->g v σ H Q
noncomputable def stN(i:Nat):PyData->Sg->Option Sg:=fun x ρ=>some (ρ.set i (some (.d x)))
theorem cL{c:Ct}(i:Nat):Tg c (jN i) (stN i) [i]:=fun v x ρ ρ' σ F H Q ab r e q=>by
 cases e
 exact q _ List.length_set (fun j hj=>List.getElem?_set_ne (by intro z;subst z;exact hj (by simp))) (ab.setA (a:=.d x) r)
noncomputable def stL:List (PyData->Sg->Option Sg)->List PyData->Sg->Option Sg
 | [],[],ρ=>some ρ
 | f::fs,x::xs,ρ=>(f x ρ).bind (stL fs xs)
 | _,_,_=>none
def Tgs(c:Ct)(g:TGs)(fs:List (PyData->Sg->Option Sg))(is:List Nat):Prop:=∀ (vs:List V) (xs:List PyData) (ρ ρ':Sg) (σ:L2.St) (F H:Hp) (Q:L2.St->Hp->Prop),Ab c ρ σ F H->DatVs c.K F vs xs->stL fs xs ρ=some ρ'->
 (∀ σ':L2.St,σ'.length=σ.length->(∀ j:Nat,j∉is->σ'[j]? = σ[j]?)->Ab c ρ' σ' F H->Q σ' H)->g vs σ H Q
theorem kW{c:Ct}:Tgs c aDC [] []:=fun vs xs ρ ρ' σ F H Q ab r e q=>by
 cases xs with
 | nil=>cases e;exact ⟨by cases r;rfl,q σ rfl (fun _ _=>rfl) ab⟩
 | cons x t=>cases e
theorem eE{c:Ct}{g:TG}{gs:TGs}{f:PyData->Sg->Option Sg}{fs:List (PyData->Sg->Option Sg)}{is js:List Nat}(h:Tg c g f is)(h2:Tgs c gs fs js):Tgs c (yP g gs) (f::fs) (is++js):=fun vs xs ρ ρ' σ F H Q ab r e q=>by
 cases r with
 | nil=>cases e
 | cons r1 r2=>
  rename_i x d vs ds
  have e':(f d ρ).bind (stL fs ds)=some ρ':=e
  cases e1:f d ρ with
  | none=>rw[e1] at e';cases e'
  | some ρ1=>
   rw[e1] at e'
   refine ⟨_,_,rfl,h _ _ ρ ρ1 σ F H _ ab r1 e1 fun σ1 l1 k1 ab1=>h2 _ _ ρ1 ρ' σ1 F H _ ab1 r2 e' fun σ2 l2 k2 ab2=>q σ2 (l2.trans l1) (fun j hj=>?_) ab2⟩
   rw[List.mem_append,not_or] at hj
   exact (k2 j hj.2).trans (k1 j hj.1)
noncomputable def stT(fs:List (PyData->Sg->Option Sg)):PyData->Sg->Option Sg:=fun x ρ=>match x with
 | .tuple xs=>stL fs xs ρ
 | _=>none
theorem aCE:∀ {fs:List (PyData->Sg->Option Sg)} {xs:List PyData} {ρ ρ':Sg},stL fs xs ρ=some ρ'->xs.length=fs.length
 | [],[],_,_,_=>rfl
 | [],_::_,_,_,h=>by cases h
 | _::_,[],_,_,h=>by cases h
 | f::fs,x::xs,ρ,ρ',h=>by
  have h':(f x ρ).bind (stL fs xs)=some ρ':=h
  cases e:f x ρ with
  | none=>rw[e] at h';cases h'
  | some ρ1=>
   rw[e] at h'
   have:=aCE (fs:=fs) (xs:=xs) h'
   simp[this]
theorem mO{c:Ct}{gs:TGs}{fs:List (PyData->Sg->Option Sg)}{is:List Nat}{n:Nat}{K:Frag}(hK:K=c.K)(h:Tgs c gs fs is)(hn:fs.length=n):Tg c (aGV K n gs) (stT fs) is:=fun v x ρ ρ' σ F H Q ab r e q=>by
 cases x with
 | tuple xs=>
  obtain ⟨a,vs,rfl,h1,h2⟩:=r.tup_of
  subst hK
  exact ⟨a,vs,rfl,h1.same ab.fh,by rw[h2.length,aCE e,hn],h vs xs ρ ρ' σ F H Q ab h2 e q⟩
 | _=>cases e
structure Yld(K:Frag)(J:It)(F B:Hp)(xs:List PyData):Prop where
 len:xs.length<=sizeLine
 go:∀ (i:Nat) F1 H1,aR F F1->aR F1 H1->aR B H1->i < xs.length->J.go i H1
 yld:∀ (i:Nat) F1 H1 v H2 x,aR F F1->aR F1 H1->aR B H1->J.yld i H1 v H2->xs[i]? = some x->∃ F2,Ext F1 H1 F2 H2/\DatV K F2 v x
 stop:∀ F1 H1,aR F F1->aR F1 H1->aR B H1->J.stop xs.length H1
def tI(c:Ct)(E:XK)(f:Sg->R (List PyData)):TI:=fun σ H Rr=>∃ ρ F,Ab c ρ σ F H/\Rk c E F H (f ρ) fun xs=>∀ J B F' H',Ext F H F' H'->aR B H'->Yld c.K J F' B xs->Rr J H'
def tI0(c:Ct)(E:XK)(f:Sg->R (List PyData)):TI:=fun σ H Rr=>∃ ρ F,Ab c ρ σ F H/\Rk c E F H (f ρ) fun xs=>∀ J F' H',Ext F H F' H'->Yld c.K J F' (fun _=>none) xs->Rr J H'
theorem PI.imp{X:Cx}{tg e:Expr}{t t':TI}(h:PI X tg e t)(i:∀ σ H Q,t' σ H Q->t σ H Q):PI X tg e t':=fun pins s σ H Q I q=>h pins s σ H Q I (i σ H Q q)
abbrev PIf(X:Cx)(c:Ct)(E:XK)(tg e:Expr)(f:Sg->R (List PyData)):Prop:=PI X tg e (tI c E f)
abbrev PI0(X:Cx)(c:Ct)(E:XK)(tg e:Expr)(f:Sg->R (List PyData)):Prop:=PI X tg e (tI0 c E f)
theorem aJD{X:Cx}{c:Ct}{E:XK}{tg e:Expr}{f:Sg->R (List PyData)}(h:PI0 X c E tg e f):PIf X c E tg e f:=PI.imp h fun σ H Q ⟨ρ,F,ab,k⟩=>
 ⟨ρ,F,ab,k.imp fun xs _ q J F' H' s y=>q J (fun _=>none) F' H' s (fun _ _ z=>nomatch z) y⟩
def j3{H:Hp}:aR (fun _=>none) H:=fun _ _ z=>nomatch z
noncomputable def eM:PyData->R (List PyData)
 | .list xs=>if xs.length<=16777216 then .ok xs else .bad
 | .tuple xs=>if xs.length<=16777216 then .ok xs else .bad
 | .str z=>if z.cps.toList.length<=16777216 then .ok (z.cps.toList.map fun u=>.str ⟨#[u]⟩) else .bad
 | _=>.bad
theorem aHU{K:Frag}{F B H:Hp}{a:Addr}{vs:List V}{xs:List PyData}(hz:xs.length<=16777216)(hs:∀ H1,aR F H1->aR B H1->SqL K H1 a vs)(hd:DatVs K F vs xs):Yld K (Itl K a) F B xs where
 len:=by rw[dP];exact hz
 go:=fun i F1 H1 h1 h2 h3 hi=>by
  have q:=hs H1 (fun x o z=>h2 x o (h1 x o z)) h3
  exact ⟨vs,vs[i]'(by rw[hd.length];exact hi),q,by simp⟩
 yld:=fun i F1 H1 v H2 x h1 h2 h3 y e=>by
  obtain ⟨rfl,y⟩:=y
  have q:=y vs (hs _ (fun x o z=>h2 x o (h1 x o z)) h3)
  obtain ⟨d,e2,r⟩:=hd.get q
  rw[e] at e2
  cases e2
  exact ⟨F1,Ext.refl h2,r.same h1⟩
 stop:=fun F1 H1 h1 h2 h3=>⟨vs,hs H1 (fun x o z=>h2 x o (h1 x o z)) h3,by rw[hd.length];exact Nat.le_refl _⟩
theorem aKQ{K:Frag}{F B:Hp}{a:Addr}{vs:List V}{xs:List PyData}(hz:xs.length<=16777216)(hs:SqT K F a vs)(hd:DatVs K F vs xs):Yld K (Itt K a) F B xs where
 len:=by rw[dP];exact hz
 go:=fun i F1 H1 h1 h2 h3 hi=>by
  have q:=hs.same (H':=H1) (fun x o z=>h2 x o (h1 x o z))
  exact ⟨vs,vs[i]'(by rw[hd.length];exact hi),q,by simp⟩
 yld:=fun i F1 H1 v H2 x h1 h2 h3 y e=>by
  obtain ⟨rfl,y⟩:=y
  have q:=y vs (hs.same (fun x o z=>h2 x o (h1 x o z)))
  obtain ⟨d,e2,r⟩:=hd.get q
  rw[e] at e2
  cases e2
  exact ⟨F1,Ext.refl h2,r.same h1⟩
 stop:=fun F1 H1 h1 h2 h3=>⟨vs,hs.same (fun x o z=>h2 x o (h1 x o z)),by rw[hd.length];exact Nat.le_refl _⟩
theorem aKR{K:Frag}{F B:Hp}{z:Str}(hz:z.cps.toList.length<=16777216):Yld K (Its z) F B (z.cps.toList.map fun u=>.str ⟨#[u]⟩) where
 len:=by rw[dP,List.length_map];exact hz
 go:=fun i F1 H1 h1 h2 h3 hi=>by
  rw[List.length_map,Array.length_toList] at hi
  exact hi
 yld:=fun i F1 H1 v H2 x h1 h2 h3 y e=>by
  obtain ⟨rfl,u,hu,rfl⟩:=y
  rw[List.getElem?_map,Array.getElem?_toList,hu] at e
  cases e
  exact ⟨F1,Ext.refl h2,.str _⟩
 stop:=fun F1 H1 h1 h2 h3=>by
  show (z.cps.toList.map _).length=z.cps.size
  rw[List.length_map,Array.length_toList]
section
variable{X:Cx}{c:Ct}{E:XK}{tg e a b:Expr}{pos:Pos}
theorem aHV{f:Sg->R PyData}(hK:X.K=c.K)(h:PR X c E e f):PIf X c E tg e (e1 eM f):=PI.imp (PI.or (aMQ h) (aMV h)) fun σ H Q ⟨ρ,F,ab,k⟩=>by
 have k':=Rk.bind k
 cases hf:f ρ with
 | bad=>rw[hf] at k';exact k'.elim
 | ex x=>rw[hf] at k';exact .inl ⟨ρ,F,ab,by rw[hf];exact k'⟩
 | ok d=>
  rw[hf] at k'
  have k2:=Rk.ok k'
  unfold eM at k2
  split at k2
  ·rename_i xs
   split at k2
   ·rename_i hz
    refine .inl ⟨ρ,F,ab,?_⟩
    rw[hf]
    intro v F' H' s r
    obtain ⟨p,vs,rfl,h1,h2⟩:=a9.lst_of s.fh r
    refine ⟨p,rfl,.inl ⟨⟨vs,?_⟩,?_⟩⟩
    · rw [hK]; exact h1
    · rw [hK]; exact Rk.ok k2 _ H' F' H' s (cQ _) (aHU (H := H') hz (fun H1 _ q => h1.same q) h2)
   ·exact k2.elim
  ·rename_i xs
   split at k2
   ·rename_i hz
    refine .inl ⟨ρ,F,ab,?_⟩
    rw[hf]
    intro v F' H' s r
    obtain ⟨p,vs,rfl,h1,_,h2⟩:=a9.tup_of s.fh r
    refine ⟨p,rfl,.inr ⟨⟨vs,?_⟩,?_⟩⟩
    · rw [hK]; exact h1.same s.fh
    · rw [hK]; exact Rk.ok k2 _ H' F' H' s (cQ _) (aKQ hz h1 h2)
   ·exact k2.elim
  ·rename_i z
   split at k2
   ·rename_i hz
    refine .inr ⟨ρ,F,ab,?_⟩
    rw[hf]
    intro v F' H' s r
    obtain rfl:=a9.str_of r
    exact ⟨z,rfl,Rk.ok k2 _ H' F' H' s (cQ _) (aKR hz)⟩
   ·exact k2.elim
  ·exact k2.elim
noncomputable def hU(lo:Int)(n:Nat):List PyData:=(List.range n).map fun i:Nat=>.int (lo+i)
def fF(lo hi:Int):R (List PyData):=if -4611686018427387904<=lo/\lo < 4611686018427387904 /\ -4611686018427387904<=hi/\hi < 4611686018427387904/\hi - lo<=16777216 then .ok (hU lo (hi - lo).toNat) else .bad
def fB(f:Sg->R PyData):Sg->R (List PyData):=fun ρ=>(f ρ).bind fun x=>match x with
 | .int j=>fF 0 j
 | _=>.bad
def mC(f g:Sg->R PyData):Sg->R (List PyData):=fun ρ=>(f ρ).bind fun x=>(g ρ).bind fun y=>match x,y with
 | .int i,.int j=>fF i j
 | _,_=>.bad
theorem xM{K:Frag}{F B:Hp}{lo:Int}{n:Nat}(hz:n<=16777216):Yld K (Itr lo n) F B (hU lo n) where
 len:=by unfold hU;rw[dP,List.length_map,List.length_range];exact hz
 go:=fun i F1 H1 h1 h2 h3 hi=>by unfold hU at hi;rw[List.length_map,List.length_range] at hi;exact hi
 yld:=fun i F1 H1 v H2 x h1 h2 h3 y e=>by
  obtain ⟨rfl,rfl⟩:=y
  unfold hU at e
  rw[List.getElem?_map] at e
  cases q:(List.range n)[i]? with
  | none=>rw[q] at e;cases e
  | some j=>
   rw[q] at e
   cases e
   obtain ⟨hl,hv⟩:=List.getElem?_eq_some_iff.mp q
   rw[List.getElem_range] at hv
   subst hv
   exact ⟨F1,Ext.refl h2,.int _⟩
 stop:=fun F1 H1 h1 h2 h3=>by show n<=_;unfold hU;rw[List.length_map,List.length_range];exact Nat.le_refl _
theorem kX{f:Sg->R PyData}(h:PI X tg e (aI0 (dY (tV (bD c) c E f) gG))):PI0 X c E tg e (fB f):=PI.imp h fun σ H Q ⟨ρ,F,ab,k⟩=>by
 refine ⟨ρ,F,ab,(Rk.bind k).imp fun x _ q v F' H' s r=>?_⟩
 cases x with
 | int j=>
  have q':Rk c E F H (fF 0 j) _:=q
  unfold fF at q'
  split at q'
  ·rename_i hz
   obtain rfl:=a9.int_of r
   refine ⟨j,rfl,by omega,by omega,?_⟩
   have e0:(j - 0).toNat=j.toNat:=by rw[Int.sub_zero]
   rw[<-e0]
   exact Rk.ok q' _ F' H' s (xM (by omega))
  ·exact q'.elim
 | _=>exact q.elim
theorem aCF{f g:Sg->R PyData}(h:PI X tg e (aI1 (dY (tV (bD c) c E f) (dY (tV (bD c) c E g) gG)))):PI0 X c E tg e (mC f g):=PI.imp h fun σ H Q ⟨ρ,F,ab,k⟩=>by
 refine ⟨ρ,F,ab,(Rk.bind k).imp fun x _ q v F1 H1 s1 r1=>⟨ρ,F1,ab.ext s1,((Rk.bind q).ext s1).imp fun y _ q w F' H' s r=>?_⟩⟩
 cases x with
 | int i=>
  cases y with
  | int j=>
   have q':Rk c E F H (fF i j) _:=q
   unfold fF at q'
   split at q'
   ·rename_i hz
    obtain rfl:=a9.int_of r1
    obtain rfl:=a9.int_of r
    exact ⟨i,j,rfl,⟨by omega,by omega,by omega,by omega⟩,Rk.ok q' _ F' H' (s1.trans s) (xM (by omega))⟩
   ·exact q'.elim
  | _=>exact q.elim
 | _=>cases y<;>exact q.elim
end
end Fl
namespace Fl
open PySem L2 PyProof.Rows
noncomputable def mP(js:List (Option Nat))(ρ:Sg):Sg:=js.map fun o=>o.bind fun j=>(ρ[j]?).join
theorem v9{α:Type}{js:List (Option Nat)}{ρ:List (Option α)}{i:Nat}{a:α}(h:(js.map fun o=>o.bind fun j=>(ρ[j]?).join)[i]? = some (some a)):∃ j,js[i]? = some (some j)/\ρ[j]? = some (some a):=by
 rw[List.getElem?_map] at h
 cases e:js[i]? with
 | none=>rw[e] at h;cases h
 | some o=>
  rw[e] at h
  have h':(o.bind fun j=>(ρ[j]?).join)=some a:=Option.some.inj h
  cases o with
  | none=>cases h'
  | some j=>
   have h2:(ρ[j]?).join=some a:=h'
   cases e2:ρ[j]? with
   | none=>rw[e2] at h2;cases h2
   | some o2=>rw[e2] at h2;have:o2=some a:=h2;subst this;exact ⟨j,rfl,e2⟩
theorem wA{α:Type}{js:List (Option Nat)}{ρ:List (Option α)}{i j:Nat}{a:α}(h:js[i]? = some (some j))(h2:ρ[j]? = some (some a)):(js.map fun o=>o.bind fun j=>(ρ[j]?).join)[i]? = some (some a):=by
 rw[List.getElem?_map,h]
 show some ((ρ[j]?).join)=_
 rw[h2];rfl
def wB(js:List (Option Nat)):Prop:=∀ (i k j:Nat),js[i]? = some (some j)->js[k]? = some (some j)->i=k
theorem uM{js:List (Option Nat)}(h:js.Pairwise fun a b=>a=none\/a≠b):wB js:=fun i k j h1 h2=>by
 obtain ⟨l1,e1⟩:=List.getElem?_eq_some_iff.mp h1
 obtain ⟨l2,e2⟩:=List.getElem?_eq_some_iff.mp h2
 rw[List.pairwise_iff_getElem] at h
 rcases Nat.lt_trichotomy i k with q|q|q
 ·rcases h i k l1 l2 q with z|z
  · rw [e1] at z; cases z
  · exact absurd (e1.trans e2.symm) z
 ·exact q
 ·rcases h k i l2 l1 q with z|z
  · rw [e2] at z; cases z
  · exact absurd (e2.trans e1.symm) z
theorem Ab.cap{c:Ct}{ρ:Sg}{σ σ0:L2.St}{F H:Hp}{js:List (Option Nat)}(b:Ab c ρ σ F H)(ho:wB js)(k:eI (kS js σ) σ0):Ab c (mP js ρ) σ0 F H where
 len:=by rw[k.1];unfold mP kS;rw[List.length_map,List.length_map]
 fh:=b.fh
 slot:=fun i a h=>by
  obtain ⟨j,h1,h2⟩:=v9 h
  obtain ⟨v,h3,h4⟩:=b.slot j a h2
  exact ⟨v,k.2 i v (wA h1 h3),h4⟩
 apart:=fun i i' a a' hne h h' o o'=>by
  obtain ⟨j,h1,h2⟩:=v9 h
  obtain ⟨j',h1',h2'⟩:=v9 h'
  have hj:j≠j':=fun z=>hne (ho i i' j h1 (by rw[h1',z]))
  obtain ⟨v,h3,_⟩:=b.slot j a h2
  obtain ⟨v',h3',_⟩:=b.slot j' a' h2'
  rw[k.2 i v (wA h1 h3),k.2 i' v' (wA h1' h3'),<-h3,<-h3']
  exact b.apart j j' a a' hj h2 h2' o o'
 f0:=b.f0
 h0:=b.h0
 n0:=b.n0
 t0:=b.t0
noncomputable def R.noEx{α:Type}:R α->R α
 | .ex _=>.bad
 | r=>r
@[simp] theorem R.noEx_ok{α:Type}(a:α):(R.ok a).noEx=.ok a:=id rfl
noncomputable def wC{α:Type}:Option α->R α
 | some a=>.ok a
 | none=>.bad
@[simp] theorem fJ{α:Type}(a:α):wC (some a)=.ok a:=id rfl
noncomputable def compL(fs:PyData->Sg->Option Sg)(ft:Sg->R Bool)(fe:Sg->R PyData)(ρ0:Sg):List PyData->R (List PyData)
 | []=>.ok []
 | x::t=>(wC (fs x ρ0)).bind fun ρ1=>(ft ρ1).noEx.bind fun b=>if b=true then (fe ρ1).noEx.bind fun y=>(compL fs ft fe ρ0 t).bind fun ys=>.ok (y::ys) else compL fs ft fe ρ0 t
theorem o8{fs:PyData->Sg->Option Sg}{ft:Sg->R Bool}{fe:Sg->R PyData}{ρ0:Sg}{e:Er}:∀ {xs:List PyData},compL fs ft fe ρ0 xs≠.ex e
 | []=>fun h=>by cases h
 | x::t=>fun h=>by
  unfold compL at h
  cases h1:fs x ρ0 with
  | none=>rw[h1] at h;cases h
  | some ρ1=>
   rw[h1] at h
   have h:((ft ρ1).noEx.bind fun b=>if b=true then (fe ρ1).noEx.bind fun y=>(compL fs ft fe ρ0 t).bind fun ys=>.ok (y::ys) else compL fs ft fe ρ0 t)=.ex e:=h
   cases h2:ft ρ1 with
   | bad=>rw[h2] at h;cases h
   | ex _=>rw[h2] at h;cases h
   | ok b=>
    rw[h2] at h
    have h:(if b=true then (fe ρ1).noEx.bind fun y=>(compL fs ft fe ρ0 t).bind fun ys=>.ok (y::ys) else compL fs ft fe ρ0 t)=.ex e:=h
    cases b with
    | false=>exact o8 (xs:=t) h
    | true=>
     have h:((fe ρ1).noEx.bind fun y=>(compL fs ft fe ρ0 t).bind fun ys=>.ok (y::ys))=.ex e:=h
     cases h3:fe ρ1 with
     | bad=>rw[h3] at h;cases h
     | ex _=>rw[h3] at h;cases h
     | ok y=>
      rw[h3] at h
      have h:((compL fs ft fe ρ0 t).bind fun ys=>.ok (y::ys))=.ex e:=h
      cases h4:compL fs ft fe ρ0 t with
      | bad=>rw[h4] at h;cases h
      | ex e'=>exact o8 (xs:=t) (e:=e') h4
      | ok ys=>rw[h4] at h;cases h
theorem aD5{fs:PyData->Sg->Option Sg}{ft:Sg->R Bool}{fe:Sg->R PyData}{ρ0:Sg}{x:PyData}{t ys:List PyData}(h:compL fs ft fe ρ0 (x::t)=.ok ys) :
  ∃ ρ1 b,fs x ρ0=some ρ1/\ft ρ1=.ok b/\((b=true/\∃ y zs,fe ρ1=.ok y/\compL fs ft fe ρ0 t=.ok zs/\ys=y::zs)\/(b=false/\compL fs ft fe ρ0 t=.ok ys)):=by
 unfold compL at h
 cases h1:fs x ρ0 with
 | none=>rw[h1] at h;cases h
 | some ρ1=>
  rw[h1] at h
  have h:((ft ρ1).noEx.bind fun b=>if b=true then (fe ρ1).noEx.bind fun y=>(compL fs ft fe ρ0 t).bind fun ys=>.ok (y::ys) else compL fs ft fe ρ0 t)=.ok ys:=h
  cases h2:ft ρ1 with
  | bad=>rw[h2] at h;cases h
  | ex _=>rw[h2] at h;cases h
  | ok b=>
   rw[h2] at h
   have h:(if b=true then (fe ρ1).noEx.bind fun y=>(compL fs ft fe ρ0 t).bind fun ys=>.ok (y::ys) else compL fs ft fe ρ0 t)=.ok ys:=h
   refine ⟨ρ1,b,rfl,h2,?_⟩
   cases b with
   | false=>exact .inr ⟨rfl,h⟩
   | true=>
    refine .inl ⟨rfl,?_⟩
    have h:((fe ρ1).noEx.bind fun y=>(compL fs ft fe ρ0 t).bind fun ys=>.ok (y::ys))=.ok ys:=h
    cases h3:fe ρ1 with
    | bad=>rw[h3] at h;cases h
    | ex _=>rw[h3] at h;cases h
    | ok y=>
     rw[h3] at h
     have h:((compL fs ft fe ρ0 t).bind fun ys=>.ok (y::ys))=.ok ys:=h
     cases h4:compL fs ft fe ρ0 t with
     | bad=>rw[h4] at h;cases h
     | ex e'=>rw[h4] at h;cases h
     | ok zs=>rw[h4] at h;cases h;exact ⟨y,zs,rfl,rfl,rfl⟩
def lF(js:List (Option Nat))(fi:Sg->R (List PyData))(fs:PyData->Sg->Option Sg)(ft:Sg->R Bool)(fe:Sg->R PyData):Sg->R (List PyData):=fun ρ=>(fi ρ).bind fun xs=>compL fs ft fe (mP js ρ) xs
noncomputable def mQ:Sg->R Bool:=fun _=>.ok true
section
variable{X:Cx}{c:Ct}{E:XK}{e a b:Expr}{pos:Pos}
theorem kT:L2.PIf X [] (tTf c E mQ):=fun pins s σ H Q I ⟨ρ,F,ab,k⟩=>L2.kT pins s σ H Q I (Rk.ok k F H (Ext.refl ab.fh))
theorem aAG{js:List (Option Nat)}{is:List Nat}{σ σ0 σ1:L2.St}(k:eI (kS js σ) σ0)(hl:σ1.length=σ0.length)(h:∀ j:Nat,j∉is->σ1[j]? = σ0[j]?)(hi:∀ i∈is,js[i]? = some none):eI (kS js σ) σ1:=
 ⟨hl.trans k.1,fun i v e=>by
  by_cases q:i∈is
  ·unfold kS at e
   rw[List.getElem?_map,hi i q] at e
   cases e
  ·rw[h i q];exact k.2 i v e⟩
theorem xN{N:List Str}{js:List (Option Nat)}{scope:Scope}{tg elt:Expr}{ifs:List Expr}{fi:Sg->R (List PyData)}{fs:PyData->Sg->Option Sg}{ft:Sg->R Bool}{fe:Sg->R PyData}{is:List Nat}(ho:wB js)(hi:∀ i∈is,js[i]? = some none)
  (hb:∀ (cl:List (Str×Addr)) (C:Addr) (s:Shared) (H0:Hp) (fp:List Addr),∃ g,PG (fO X N scope cl C s H0 fp) tg g/\Tg c g fs is/\L2.PIf (fO X N scope cl C s H0 fp) ifs (tTf c E0 ft)/\PD (fO X N scope cl C s H0 fp) c E0 elt fe)
  {σ:L2.St} {H:Hp} {Q:VK} (h:tV (tF c) c E (lF js fi fs ft fe) σ H Q):rP X N scope js tg elt ifs (tI c E fi) σ H Q:=by
 obtain ⟨ρ,F,ab,k⟩:=h
 refine ⟨ρ,F,ab,(Rk.bind k).imp fun xs _ q J B F1 H1 s1 sb yl=>?_⟩
 cases hc:compL fs ft fe (mP js ρ) xs with
 | bad=>rw[hc] at q;exact q.elim
 | ex e=>exact absurd hc o8
 | ok ys=>
  rw[hc] at q
  refine aB7 (n:=xs.length) (fun i acc H'=>∃ F',Ext F1 H1 F' H'/\acc.length<=i/\∃ zs rest,DatVs c.K F' acc zs/\compL fs ft fe (mP js ρ) (xs.drop i)=.ok rest/\zs++rest=ys) yl.len ⟨F1,Ext.refl s1.fh,Nat.le_refl _,[],ys,.nil,hc,rfl⟩ ?_ ?_ ?_ ?_ ?_
  ·rintro i acc H' _ ⟨F',_,h,_⟩;exact h
  ·rintro i acc H' hlt ⟨F',e1,_⟩
   exact yl.go i F' H' e1.ff e1.fh (fun a o z=>e1.hh a o (sb a o z)) hlt
  ·rintro acc H' ⟨F',e1,_⟩
   exact yl.stop F' H' e1.ff e1.fh (fun a o z=>e1.hh a o (sb a o z))
  ·rintro i v acc Ha Hb hlt ⟨F',e1,hlen,zs,rest,hd,hr,hz⟩ hy
   obtain ⟨F2,e2,rx⟩:=yl.yld i F' Ha v Hb xs[i] e1.ff e1.fh (fun a o z=>e1.hh a o (sb a o z)) hy (List.getElem?_eq_getElem hlt)
   have hdr:xs.drop i=xs[i]::xs.drop (i+1):=List.drop_eq_getElem_cons hlt
   rw[hdr] at hr
   obtain ⟨ρ1,bb,hs,ht,hcase⟩:=aD5 hr
   intro cl C s H0 fp
   obtain ⟨g,hg,tg',hif,he⟩:=hb cl C s H0 fp
   refine ⟨g,_,_,hg,hif,he,fun σ0 k0=>?_⟩
   have ab0:Ab c (mP js ρ) σ0 F2 Hb:=(ab.ext (s1.trans (e1.trans e2))).cap ho k0
   refine tg' v xs[i] _ ρ1 σ0 F2 Hb _ ab0 rx hs fun σ1 hl1 hk1 ab1=>⟨aAG k0 hl1 hk1 hi,ρ1,F2,ab1,?_⟩
   rw[ht]
   intro F3 H3 e3
   rcases hcase with ⟨rfl,y,ws,hy1,hy2,rfl⟩|⟨rfl,hy2⟩
   ·refine qE ⟨ρ1,F3,ab1.ext e3,?_⟩
    rw[hy1]
    intro w F4 H4 e4 rw'
    refine ⟨F4,e1.trans (e2.trans (e3.trans e4)),by rw[List.length_append,List.length_singleton];omega,zs++[y],ws,(hd.same (e2.trans (e3.trans e4)).ff).append (.cons rw' .nil),hy2,by rw[List.append_assoc];exact hz⟩
   ·exact qD ⟨F3,e1.trans (e2.trans e3),by omega,zs,rest,hd.same (e2.trans e3).ff,hy2,hz⟩
  ·rintro acc H' ⟨F',e1,_,zs,rest,hd,hr,hz⟩ p hp
   rw[List.drop_length] at hr
   cases hr
   rw[List.append_nil] at hz
   subst hz
   exact Rk.ok q (.ref p) F' _ (s1.trans (e1.trans (Ext.own e1.fh hp))) ⟨p,acc,rfl,bT (s1.trans e1).hh hp,aY,bT e1.fh hp,hd⟩
theorem wD{N:List Str}{js:List (Option Nat)}{scope:Scope}{tg elt:Expr}{ifs:List Expr}{fi:Sg->R (List PyData)}{fs:PyData->Sg->Option Sg}{ft:Sg->R Bool}{fe:Sg->R PyData}{is:List Nat}(h:PE X e (rP X N scope js tg elt ifs (tI c E fi)))(ho:js.Pairwise fun a b=>a=none\/a≠b)(hi:∀ i∈is,js[i]? = some none)
 (hb:∀ (cl:List (Str×Addr)) (C:Addr) (s:Shared) (H0:Hp) (fp:List Addr),∃ g,PG (fO X N scope cl C s H0 fp) tg g/\Tg c g fs is/\L2.PIf (fO X N scope cl C s H0 fp) ifs (tTf c E0 ft)/\PD (fO X N scope cl C s H0 fp) c E0 elt fe) :
 PN X c E e (lF js fi fs ft fe):=PE.imp h fun σ H Q q=>xN (uM ho) hi hb q
theorem aKS{i:Nat}{st:Stmt}{N:List Str}{js:List (Option Nat)}{scope:Scope}{tg elt:Expr}{ifs:List Expr}{fi:Sg->R (List PyData)}{fs:PyData->Sg->Option Sg}{ft:Sg->R Bool}{fe:Sg->R PyData}{is:List Nat}(h:PS X st (jR (rP X N scope js tg elt ifs (tI c E fi)) (jN i)))(ho:js.Pairwise fun a b=>a=none\/a≠b)(hi:∀ i∈is,js[i]? = some none)
 (hb:∀ (cl:List (Str×Addr)) (C:Addr) (s:Shared) (H0:Hp) (fp:List Addr),∃ g,PG (fO X N scope cl C s H0 fp) tg g/\Tg c g fs is/\L2.PIf (fO X N scope cl C s H0 fp) ifs (tTf c E0 ft)/\PD (fO X N scope cl C s H0 fp) c E0 elt fe) :
 PSf X c E st (eH i (lF js fi fs ft fe)):=iS (PS.imp h fun D σ H q=>xN (uM ho) hi hb q)
end
noncomputable def i9(fs:PyData->Sg->Option Sg)(fb:Sg->R Fw):List PyData->Sg->R Fw
 | [],ρ=>.ok (.nx ρ)
 | x::t,ρ=>(wC (fs x ρ)).bind fun ρ1=>(fb ρ1).bind fun w=>match w with
  | .nx ρ2=>i9 fs fb t ρ2
  | .ct ρ2=>i9 fs fb t ρ2
  | .bk ρ2=>.ok (.nx ρ2)
  | .rt a=>.ok (.rt a)
def jT(fi:Sg->R (List PyData))(fs:PyData->Sg->Option Sg)(fb:Sg->R Fw):Sg->R Fw:=fun ρ=>(fi ρ).bind fun xs=>i9 fs fb xs ρ
section
variable{X:Cx}{c:Ct}{E:XK}{e a b:Expr}{pos:Pos}{st:Stmt}
theorem eR{g:TG}{fi:Sg->R (List PyData)}{fs:PyData->Sg->Option Sg}{is:List Nat}{fb:Sg->R Fw}(hg:Tg c g fs is)(h:PS X st (aGW (tI0 c E fi) g (tSf c E fb))):PSf X c E st (jT fi fs fb):=PS.imp h fun D σ H zz0=>by
 obtain ⟨ρ,F,ab,k⟩:=zz0
 refine ⟨ρ,F,ab,(Rk.bind k).imp fun xs _ q J F1 H1 s1 yl=>?_⟩
 refine ⟨fun i m σ H=>m=xs.length - i/\i<=xs.length/\∃ ρ' F',aR F1 F'/\Ab c ρ' σ F' H/\Rk c E F' H (i9 fs fb (xs.drop i) ρ') (iK c F D),⟨xs.length,by simp,Nat.zero_le _,ρ,F1,cQ _,ab.ext s1,Rk.ext s1 q⟩,?_⟩
 rintro i m σ2 H2 ⟨rfl,hi,ρ2,F2,s2,ab2,k2⟩
 by_cases hlt:i < xs.length
 ·refine .inr ⟨yl.go i F2 H2 s2 ab2.fh j3 hlt,fun σ' H'=>∃ ρ' F',aR F1 F'/\Ab c ρ' σ' F' H'/\Rk c E F' H' (i9 fs fb (xs.drop (i+1)) ρ') (iK c F D),fun σ' H' w=>⟨xs.length - (i+1),by omega,rfl,hlt,w⟩,fun v H3 y=>?_⟩
  obtain ⟨F3,e3,rv⟩:=yl.yld i F2 H2 v H3 xs[i] s2 ab2.fh j3 y (List.getElem?_eq_getElem hlt)
  have hdr:xs.drop i=xs[i]::xs.drop (i+1):=List.drop_eq_getElem_cons hlt
  rw[hdr] at k2
  unfold i9 at k2
  cases h1:fs xs[i] ρ2 with
  | none=>rw[h1] at k2;exact k2.elim
  | some ρ3=>
   rw[h1] at k2
   refine hg v xs[i] ρ2 ρ3 σ2 F3 H3 _ (ab2.ext e3) rv h1 fun σ3 _ _ ab3=>⟨ρ3,F3,ab3,?_⟩
   have k3:Rk c E F2 H2 (fb ρ3) _:=Rk.bind k2
   cases h2:fb ρ3 with
   | bad=>rw[h2] at k3;exact k3.elim
   | ex e=>rw[h2] at k3;exact k3
   | ok w=>
    rw[h2] at k3
    have k4:=Rk.ok k3
    have sF:aR F F3:=fun a o z=>e3.ff a o (s2 a o (s1.ff a o z))
    cases w with
    | nx ρ4=>exact fun σ' F' H' s' ab'=>⟨ρ4,F',fun a o z=>s' a o (e3.ff a o (s2 a o z)),ab',k4⟩
    | ct ρ4=>exact fun σ' F' H' s' ab'=>⟨ρ4,F',fun a o z=>s' a o (e3.ff a o (s2 a o z)),ab',k4⟩
    | bk ρ4=>exact fun σ' F' H' s' ab'=>Rk.ok k4 σ' F' H' (fun a o z=>s' a o (sF a o z)) ab'
    | rt a=>exact fun v F' H' z r=>Rk.ok k4 v F' H' z r
 ·have e:i=xs.length:=by omega
  subst e
  rw[List.drop_length] at k2
  exact .inl ⟨yl.stop F2 H2 s2 ab2.fh j3,Rk.ok k2 σ2 F2 H2 (fun a o z=>s2 a o (s1.ff a o z)) ab2⟩
end
noncomputable def dA(t:Sg->R Bool)(b:Sg->R Fw):Nat->Sg->R Fw
 | 0,_=>.bad
 | n+1,ρ=>(t ρ).bind fun k=>if k=true then (b ρ).bind fun w=>match w with
   | .nx ρ'=>dA t b n ρ'
   | .ct ρ'=>dA t b n ρ'
   | .bk ρ'=>.ok (.nx ρ')
   | .rt a=>.ok (.rt a)
  else .ok (.nx ρ)
open Classical in
noncomputable def cV(t:Sg->R Bool)(b:Sg->R Fw):Sg->R Fw:=fun ρ=>if h:∃ n,dA t b n ρ≠.bad then dA t b h.choose ρ else .bad
theorem R.bind_mono{α β:Type}{r:R α}{f g:α->R β}(h:r.bind f≠.bad)(hfg:∀ a,f a≠.bad->g a=f a):r.bind g=r.bind f:=by
 cases r with
 | bad=>rfl
 | ex e=>rfl
 | ok a=>exact hfg a h
theorem lG{t:Sg->R Bool}{b:Sg->R Fw}:∀ {n m:Nat} {ρ:Sg},n<=m->dA t b n ρ≠.bad->dA t b m ρ=dA t b n ρ
 | 0,_,_,_,h=>absurd rfl h
 | n+1,0,_,hm,_=>absurd hm (by omega)
 | n+1,m+1,ρ,hm,h=>by
  unfold dA at h ⊢
  refine R.bind_mono h fun k hk=>?_
  cases k with
  | false=>rfl
  | true=>
   refine R.bind_mono (r:=b ρ) hk fun w hw=>?_
   cases w with
   | nx ρ'=>exact lG (by omega) hw
   | ct ρ'=>exact lG (by omega) hw
   | bk ρ'=>rfl
   | rt a=>rfl
theorem qK{t:Sg->R Bool}{b:Sg->R Fw}{ρ:Sg}{n:Nat}(h:dA t b n ρ≠.bad):cV t b ρ=dA t b n ρ:=by
 have hx:∃ n,dA t b n ρ≠.bad:=⟨n,h⟩
 unfold cV
 rw[dif_pos hx]
 have hc:=hx.choose_spec
 rcases Nat.le_total n hx.choose with q|q
 · exact lG q h
 · exact (lG q hc).symm
theorem qL (t : Sg -> R Bool) (b : Sg -> R Fw) (ρ : Sg) : cV t b ρ = (t ρ).bind fun k => if k = true then (b ρ).bind fun w => match w with
      | .nx ρ' => cV t b ρ'
      | .ct ρ' => cV t b ρ'
      | .bk ρ' => .ok (.nx ρ')
      | .rt a => .ok (.rt a)
    else .ok (.nx ρ) := by
  have key : ∀ n, (∀ k, t ρ = .ok k -> k = true -> ∀ w, b ρ = .ok w -> ∀ ρ', (w = .nx ρ' \/ w = .ct ρ') -> cV t b ρ' = dA t b n ρ') -> dA t b (n + 1) ρ = (t ρ).bind fun k => if k = true then (b ρ).bind fun w => match w with
      | .nx ρ' => cV t b ρ'
      | .ct ρ' => cV t b ρ'
      | .bk ρ' => .ok (.nx ρ')
      | .rt a => .ok (.rt a)
    else .ok (.nx ρ) := by
    intro n h
    unfold dA
    cases ht : t ρ with
    | bad => rfl
    | ex e => rfl
    | ok k =>
      cases k with
      | false => rfl
      | true =>
        show ((b ρ).bind _) = ((b ρ).bind _)
        cases hb : b ρ with
        | bad => rfl
        | ex e => rfl
        | ok w =>
          cases w with
          | nx ρ' => exact (h true ht rfl _ hb ρ' (.inl rfl)).symm
          | ct ρ' => exact (h true ht rfl _ hb ρ' (.inr rfl)).symm
          | bk ρ' => rfl
          | rt a => rfl
  by_cases hx : ∃ n, dA t b n ρ ≠ .bad
  · obtain ⟨n, hn⟩ := hx
    cases n with
    | zero => exact absurd rfl hn
    | succ n =>
      rw [qK hn]
      refine key n fun k ht hk w hb ρ' hw => ?_
      subst hk
      refine qK fun z => hn ?_
      unfold dA
      rw [ht]
      show ((b ρ).bind _) = _
      rw [hb]
      rcases hw with rfl | rfl
      · exact z
      · exact z
  · have h0 : cV t b ρ = .bad := by unfold cV; rw [dif_neg hx]
    rw [h0]
    have hall : ∀ n, dA t b n ρ = .bad := fun n => Classical.byContradiction fun z => hx ⟨n, z⟩
    cases ht : t ρ with
    | bad => rfl
    | ex e => have := hall 1; unfold dA at this; rw [ht] at this; cases this
    | ok k =>
      cases k with
      | false => have := hall 1; unfold dA at this; rw [ht] at this; cases this
      | true =>
        show R.bad = ((b ρ).bind _)
        cases hb : b ρ with
        | bad => rfl
        | ex e => have := hall 1; unfold dA at this; rw [ht] at this; change ((b ρ).bind _) = _ at this; rw [hb] at this; cases this
        | ok w =>
          have nxt : ∀ ρ', (w = .nx ρ' \/ w = .ct ρ') -> cV t b ρ' = .bad := fun ρ' hw => by
            unfold cV
            rw [dif_neg]
            rintro ⟨n, hn⟩
            refine hn ?_
            have := hall (n + 1)
            unfold dA at this
            rw [ht] at this
            change ((b ρ).bind _) = _ at this
            rw [hb] at this
            rcases hw with rfl | rfl <;> exact this
          cases w with
          | nx ρ' => exact (nxt ρ' (.inl rfl)).symm
          | ct ρ' => exact (nxt ρ' (.inr rfl)).symm
          | bk ρ' => have := hall 1; unfold dA at this; rw [ht] at this; change ((b ρ).bind _) = _ at this; rw [hb] at this; cases this
          | rt a => have := hall 1; unfold dA at this; rw [ht] at this; change ((b ρ).bind _) = _ at this; rw [hb] at this; cases this
section
variable{X:Cx}{c:Ct}{E:XK}{st:Stmt}
theorem mG{t:Sg->R Bool}{fb:Sg->R Fw}(h:PS X st (aET (tTf c E t) (tSf c E fb))):PSf X c E st (cV t fb):=PS.imp h fun D σ H zz0=>by
 obtain ⟨ρ,F,ab,k⟩:=zz0
 have hx:∃ n,dA t fb n ρ≠.bad:=Classical.byContradiction fun z=>by
  have:cV t fb ρ=.bad:=by unfold cV;rw[dif_neg z]
  rw[this] at k
  exact k
 obtain ⟨n,hn⟩:=hx
 rw[qK hn] at k
 refine ⟨fun m σ H=>∃ ρ' F',aR F F'/\Ab c ρ' σ F' H/\Rk c E F' H (dA t fb m ρ') (iK c F D),⟨n,ρ,F,cQ F,ab,k⟩,?_⟩
 rintro m σ1 H1 ⟨ρ1,F1,s1,ab1,k1⟩
 cases m with
 | zero=>exact k1.elim
 | succ m=>
  unfold dA at k1
  refine ⟨ρ1,F1,ab1,(Rk.bind k1).imp fun b _ q F2 H2 e2=>?_⟩
  have ab2:=ab1.ext e2
  cases b with
  | false=>exact qD (Rk.ok q σ1 F2 H2 (fun a o z=>e2.ff a o (s1 a o z)) ab2)
  | true=>
   refine qE ⟨fun σ' H'=>∃ ρ' F',aR F F'/\Ab c ρ' σ' F' H'/\Rk c E F' H' (dA t fb m ρ') (iK c F D),fun σ' H' w=>⟨m,by omega,w⟩,ρ1,F2,ab2,?_⟩
   have q':Rk c E F1 H1 (fb ρ1) _:=Rk.bind (r:=fb ρ1) q
   cases h2:fb ρ1 with
   | bad=>rw[h2] at q';exact q'.elim
   | ex e=>rw[h2] at q';exact q'
   | ok w=>
    rw[h2] at q'
    have k4:=Rk.ok q'
    have sF:aR F F2:=fun a o z=>e2.ff a o (s1 a o z)
    cases w with
    | nx ρ4=>exact fun σ' F' H' s' ab'=>⟨ρ4,F',fun a o z=>s' a o (sF a o z),ab',k4⟩
    | ct ρ4=>exact fun σ' F' H' s' ab'=>⟨ρ4,F',fun a o z=>s' a o (sF a o z),ab',k4⟩
    | bk ρ4=>exact fun σ' F' H' s' ab'=>Rk.ok k4 σ' F' H' (fun a o z=>s' a o (sF a o z)) ab'
    | rt a=>exact fun v F' H' z r=>Rk.ok k4 v F' H' z r
end
end Fl
namespace Fl
open PySem L2 PyProof.Rows
def spG(K:Frag)(mg:Str->Option Value)(T F1:Hp)(n:Nat)(G:List PyData->R PyData):Sp:=fun vs H Q E=>∃ F ds,aR F1 F/\aR T F/\aR F H/\DatVs K F vs ds/\ds.length=n/\match G ds with
 | .bad=>False
 | .ok d=>∀ v F' H',Ext F H F' H'->DatV K F' v d->Q v H'
 | .ex e=>∀ a C F' H',Ext F H F' H'->o5 K mg F' e a C->E (.ref C) (some a) H'
def Beh(P:Program)(w:World)(K:Frag)(mg:Str->Option Value)(base:Heap)(T:Hp)(f:Addr)(F1:Hp)(k n:Nat)(G:List PyData->R PyData):Prop:=
 ∃ fd ps,ps.length=n/\dC K fd ps []/\FnOk P w K mg base (CXe P w) k f fd ps (spG K mg T F1 n G)/\(PySem.W.keepIn K (.ref f)=true\/∃ oc od fd' sl,F1 f=some (FnO f ⟨oc,od,.func fd',sl⟩))
def gOf(P:Program)(w:World)(K:Frag)(mg:Str->Option Value)(base:Heap)(T:Hp):Gb:=⟨Beh P w K mg base T,T,w⟩
def spF(g:Gb)(K:Frag)(mg:Str->Option Value)(n:Nat)(G:List A->R A):Sp:=fun vs H Q E=>∃ F as,aR g.T F/\aR F H/\AFs g K mg F as vs/\as.length=n/\match G as with
 | .bad=>False
 | .ok a=>∀ v F' H',Ext F H F' H'->AF g K mg F' a v->Q v H'
 | .ex e=>∀ a C F' H',Ext F H F' H'->o5 K mg F' e a C->E (.ref C) (some a) H'
def bC(P:Program)(w:World)(K:Frag)(mg:Str->Option Value)(base:Heap)(T:Hp)(k:Nat)(x:Str)(ps:List Str)(G:List A->R A):Prop:=Calls P w K mg base (CXe P w) k x ps (spF (gOf P w K mg base T) K mg ps.length G)
def bA(n:Nat)(G:List A->R A)(f:Sg->R (List A)):Sg->R A:=fun ρ=>(f ρ).bind fun as=>if as.length=n then G as else .bad
theorem cA{X:Cx}{c:Ct}{E:XK}{e:Expr}{n:Nat}{G:List A->R A}{g:Gb}{K:Frag}{mg:Str->Option Value}{f:Sg->R (List A)}(hG:g=c.g)(hK:K=c.K)(hM:mg=c.mg)(h:PE X e (t7 (spF g K mg n G) [] E (tAv c E f))):PV X c E e (bA n G f):=PE.imp h fun σ H Q zz0=>by
 obtain ⟨ρ,F,ab,k⟩:=zz0
 subst hG hK hM
 refine ⟨ρ,F,ab,(Rk.bind k).imp fun as _ q vs F1 H1 s1 r1=>?_⟩
 by_cases hn:as.length=n
 ·rw[if_pos hn] at q
  refine ⟨F1,as,fun a o z=>s1.ff a o (ab.f0 a o (ab.t0 a o z)),s1.fh,by rw[List.append_nil];exact r1,hn,?_⟩
  cases hg:G as with
  | bad=>rw[hg] at q;exact q
  | ok a=>rw[hg] at q;exact fun v F' H' s r=>Rk.ok q v F' H' (s1.trans s) r
  | ex e=>rw[hg] at q;exact fun a C F' H' s r=>q a C F' H' ((ab.all.trans s1).trans s) r
 ·rw[if_neg hn] at q;exact q.elim
def fnF(n:Nat)(fb:Sg->R Fw):List A->R A:=fun as=>(fb (as.map some++List.replicate (n - as.length) none)).bind fun w=>match w with
 | .rt (.l _)=>.bad
 | .rt a=>.ok a
 | .nx _=>.ok (.d .none)
 | _=>.bad
theorem AFs.get{g:Gb}{K:Frag}{mg:Str->Option Value}{F:Hp}:∀ {as:List A} {vs:List V} {i:Nat} {a:A},AFs g K mg F as vs->as[i]? = some a->∃ v,vs[i]? = some v/\AF g K mg F a v
 | [],[],_,_,_,h=>by simp at h
 | a::as,v::vs,0,_,h,e=>by simp at e;subst e;exact ⟨v,rfl,h.1⟩
 | a::as,v::vs,i+1,_,h,e=>by
  obtain ⟨w,h1,h2⟩:=AFs.get (i:=i) h.2 (by simpa using e)
  exact ⟨w,by simpa using h1,h2⟩
theorem kE{α:Type}{as:List α}{n i:Nat}{a:α}(h:(as.map some++List.replicate n none)[i]? = some (some a)):as[i]? = some a:=by
 by_cases hi:i < as.length
 ·rw[List.getElem?_append_left (by rw[List.length_map];exact hi),List.getElem?_map] at h
  cases e:as[i]? with
  | none=>rw[e] at h;cases h
  | some b=>rw[e] at h;cases h;rfl
 ·rw[List.getElem?_append_right (by rw[List.length_map];omega),List.getElem?_replicate] at h
  split at h
  · cases h
  · cases h
theorem aHW{g:Gb}{cells:List (Str×Addr)}{cls:Str->Option ClSt}{K:Frag}{mg:Str->Option Value}{w:World}{F H:Hp}{as:List A}{vs:List V}{n:Nat}(s0:aR g.T F)(s:aR F H)(h:AFs g K mg F as vs):Ab ⟨K,mg,w,F,H,g,cells,cls⟩ (as.map some++List.replicate (n - as.length) none) (vs.map some++List.replicate (n - vs.length) none) F H where
 len:=by rw[List.length_append,List.length_append,List.length_map,List.length_map,List.length_replicate,List.length_replicate,h.len]
 fh:=s
 slot:=fun i a e=>by
  obtain ⟨v,h1,h2⟩:=h.get (kE e)
  refine ⟨v,?_,AO.of h2⟩
  have hi:i < vs.length:=(List.getElem?_eq_some_iff.mp h1).1
  rw[List.getElem?_append_left (by rw[List.length_map];exact hi),List.getElem?_map,h1];rfl
 apart:=fun i j a b _ e1 _ o _=>by
  obtain ⟨v,h1,h2⟩:=h.get (kE e1)
  rw[AF.notOwn h2] at o
  cases o
 f0:=cQ F
 h0:=cQ H
 n0:=fun a e n=>absurd e n
 t0:=s0
theorem wE{g:Gb}{cells:List (Str×Addr)}{cls:Str->Option ClSt}{K:Frag}{mg:Str->Option Value}{w:World}{n:Nat}{fb:Sg->R Fw}{vs:List V}{as:List A}{F H:Hp}{Q:VK}{E:XK}(h0:aR g.T F)(h1:aR F H)(h2:AFs g K mg F as vs)(h4:match fnF n fb as with
 | .bad=>False
 | .ok a=>∀ v F' H',Ext F H F' H'->AF g K mg F' a v->Q v H'
 | .ex e=>∀ a C F' H',Ext F H F' H'->o5 K mg F' e a C->E (.ref C) (some a) H'):tSf ⟨K,mg,w,F,H,g,cells,cls⟩ E fb {nx:=fun _ H'=>Q .non H',rt:=Q} (vs.map some++List.replicate (n - vs.length) none) H:=by
 refine ⟨_,F,aHW h0 h1 h2,?_⟩
 unfold fnF at h4
 cases e:fb (as.map some++List.replicate (n - as.length) none) with
 | bad=>rw[e] at h4;exact h4
 | ex x=>rw[e] at h4;exact h4
 | ok w=>
  rw[e] at h4
  cases w with
  | nx ρ'=>exact fun σ' F' H' s ab=>h4 .non F' H' ab.all .non
  | rt a=>
   cases a with
   | l xs=>exact h4.elim
   | _=>exact h4
  | bk ρ'=>exact h4.elim
  | ct ρ'=>exact h4.elim
section
variable{P:Program}{w:World}{K:Frag}{mg:Str->Option Value}{base:Heap}{T:Hp}{x:Str}{st:Stmt}{N ps:List Str}{k:Nat}
theorem dH{fb:Sg->R Fw}(D:DefAt K mg x st ps)(S:FnScope N ps (aM st))
  (hbody:∀ (f:Addr) (cdv:Value) (A:Around) (outer:List Env) (s:Shared) (H F:Hp) (E:XK),Room k (A.deeper (envOfC x (aM st) s.heap.objs.size f cdv))->
   mN ((i7 (CXe P w) P w K mg base N x (aM st) f cdv A outer s H E).fly E) ⟨K,mg,w,F,H,gOf P w K mg base T,(envOfC x (aM st) s.heap.objs.size f cdv).cells,fun _=>none⟩ E (cC st) fb):bC P w K mg base T (k+1) x ps (fnF N.length fb):=by
 refine D.okX S (fun vs H Q E h=>?_) (fun f cdv A outer s H vs Q E hr h=>?_)
 ·obtain ⟨F,as,_,_,h2,h3,_⟩:=h
  rw[h2.len,h3]
 ·obtain ⟨F,as,h0,h1,h2,h3,h4⟩:=h
  exact ⟨_,hbody f cdv A outer s H F E hr,wE h0 h1 h2 h4⟩
theorem bC.imp{G G':List A->R A}(C:bC P w K mg base T k x ps G)(h:∀ as,G' as≠.bad->G as=G' as):bC P w K mg base T k x ps G':=Calls.imp C fun vs H Q E=>by
 rintro ⟨F,as,h0,h1,h2,h3,h4⟩
 refine ⟨F,as,h0,h1,h2,h3,?_⟩
 cases e:G' as with
 | bad=>rw[e] at h4;exact h4.elim
 | ok a=>rw[h as (by rw[e];exact fun z=>nomatch z),e];rw[e] at h4;exact h4
 | ex x=>rw[h as (by rw[e];exact fun z=>nomatch z),e];rw[e] at h4;exact h4
end
def uN(cn:Str)(fs:List Str)(f:Sg->R (List PyData)):Sg->R Fw:=fun ρ=>(f ρ).bind fun xs=>if xs.length=fs.length then .ex ⟨cn,fs.zip xs⟩ else .bad
theorem oI{α β:Type}:∀ {xs:List α} {ys:List β},ys.length=xs.length->(xs.zip ys).map (·.1)=xs
 | [],_,_=>by simp
 | x::xs,[],h=>by simp at h
 | x::xs,y::ys,h=>by simp at h;simp[oI h]
theorem oJ{α β:Type}:∀ {xs:List α} {ys:List β},ys.length=xs.length->(xs.zip ys).map (·.2)=ys
 | [],[],_=>by simp
 | [],_::_,h=>by simp at h
 | x::xs,[],h=>by simp at h
 | x::xs,y::ys,h=>by simp at h;simp[oJ h]
theorem tD{X:Cx}{c:Ct}{E:XK}{st:Stmt}{cn:Str}{C:Addr}{fs:List Str}{f:Sg->R (List PyData)}(hm:c.mg cn=some (.ref C))(hl:fs.length<=1000)(h:PS X st (zO C (spI C fs) E (tAd c E f))):PSf X c E st (uN cn fs f):=PS.imp h fun D σ H zz0=>by
 obtain ⟨ρ,F,ab,k⟩:=zz0
 refine ⟨ρ,F,ab,(Rk.bind k).imp fun xs _ q vs F1 H1 s1 r1=>?_⟩
 by_cases hn:xs.length=fs.length
 ·rw[if_pos hn] at q
  have hv:vs.length=fs.length:=by rw[r1.length,hn]
  refine aDV hv (by rw[hv];exact hl) fun e d he hd hne=>?_
  have s2:Ext F1 H1 (upd F1 e (ExO e C (some d))) (upd H1 e (ExO e C (some d))):=Ext.new s1.fh he
  have s3:Ext _ _ (upd (upd F1 e (ExO e C (some d))) d (.xd (fs.zip vs))) (upd (upd H1 e (ExO e C (some d))) d (.xd (fs.zip vs))):=Ext.new s2.fh (by rw[aP hne];exact hd)
  refine q e C _ _ ((ab.all.trans s1).trans (s2.trans s3)) ⟨hm,some d,?_,.inr ⟨d,fs.zip vs,rfl,aY,?_,?_⟩⟩
  ·rw[aP (Ne.symm hne),aY]
  ·show _=(fs.zip xs).map (·.1)
   rw[oI hv,oI hn]
  ·show DatVs _ _ _ ((fs.zip xs).map (·.2))
   rw[oJ hv,oJ hn]
   exact r1.same (s2.trans s3).ff
 ·rw[if_neg hn] at q;exact q.elim
end Fl
namespace Fl
open PySem L2 PyProof.Rows
def tPf(c:Ct)(E:XK)(f:Sg->R (Option Int)):TO:=fun σ H Q=>∃ ρ F,Ab c ρ σ F H/\Rk c E F H (f ρ) fun o=>∀ F' H',Ext F H F' H'->Q o H'
noncomputable def oNo:Sg->R (Option Int):=fun _=>.ok none
def oSo(f:Sg->R PyData):Sg->R (Option Int):=fun ρ=>(f ρ).bind fun x=>match x with
 | .int i=>.ok (some i)
 | _=>.bad
noncomputable def jA{α:Type}(xs:List α)(lo hi:Option Int):List α:=(xs.drop (HT.sIx xs.length 0 lo)).take (HT.sIx xs.length xs.length hi - HT.sIx xs.length 0 lo)
noncomputable def dSl:PyData->Option Int->Option Int->R PyData
 | .list xs,lo,hi=>.ok (.list (jA xs lo hi))
 | .tuple xs,lo,hi=>if ¬ (HT.sIx xs.length 0 lo=0/\HT.sIx xs.length xs.length hi=xs.length) then .ok (.tuple (jA xs lo hi)) else .bad
 | .str z,lo,hi=>if z.length<=16777216 then .ok (.str (Txt.slice z lo hi)) else .bad
 | _,_,_=>.bad
noncomputable def nSl:PyData->Option Int->Option Int->R (List PyData)
 | .list xs,lo,hi=>.ok (jA xs lo hi)
 | _,_,_=>.bad
def eSl{α:Type}(g:PyData->Option Int->Option Int->R α)(f:Sg->R PyData)(lo hi:Sg->R (Option Int)):Sg->R α:=fun ρ=>(f ρ).bind fun x=>(lo ρ).bind fun l=>(hi ρ).bind fun h=>g x l h
theorem tG{K:Frag}{F:Hp}{vs:List V}{xs:List PyData}(h:DatVs K F vs xs)(lo hi:Option Int):DatVs K F (qB vs lo hi) (jA xs lo hi):=by
 unfold qB jA
 rw[h.length]
 exact (h.drop _).take _
theorem PO.imp{X:Cx}{e:Option Expr}{t t':TO}(h:PO X e t)(i:∀ σ H Q,t' σ H Q->t σ H Q):PO X e t':=fun pins s σ H Q I q=>h pins s σ H Q I (i σ H Q q)
section
variable{X:Cx}{c:Ct}{E:XK}{e a b:Expr}{pos p2:Pos}{lo hi:Option Expr}
theorem uO:PO X none (tPf c E oNo):=PO.imp aJ6 fun σ H Q ⟨ρ,F,ab,k⟩=>Rk.ok k F H (Ext.refl ab.fh)
theorem uP{f:Sg->R PyData}(h:PR X c E e f):PO X (some e) (tPf c E (oSo f)):=PO.imp (aJ7 h) fun σ H Q ⟨ρ,F,ab,k⟩=>⟨ρ,F,ab,(Rk.bind k).imp fun x _ q v F' H' s r=>by
 cases x with
 | int i=>exact ⟨i,a9.int_of r,Rk.ok q F' H' s⟩
 | _=>exact q.elim⟩
def aHX(c:Ct){α:Type}(Rb:VR α)(g:PyData->Option Int->Option Int->R α):V->Option Int->Option Int->Hp->VK->Prop:=fun v lo hi H Q=>∃ F x d,aR F H/\a9 c.K F H v x/\g x lo hi=.ok d/\∀ w F' H',Ext F H F' H'->Rb d w H F' H'->Q w H'
theorem aOW(hK:X.K=c.K):SlR X (aHX c (bZ c) dSl):=by
 intro pins s σ H v x vl vu lo hi sl Q I rx hs pl pu h
 obtain ⟨F,d,w,sf,ra,eg,q⟩:=h
 unfold dSl at eg
 split at eg
 ·cases eg
  obtain ⟨p,vs,rfl,h1,h2⟩:=a9.lst_of sf ra
  rw[<-hK] at h1
  exact aB6 pins s σ H _ x vl vu lo hi sl Q I rx hs pl pu ⟨p,vs,rfl,h1,fun l hl=>q _ _ _ (Ext.new sf hl) (.lst (SqL.of aY) ((tG h2 lo hi).same (aR.upd (bT sf hl))))⟩
 ·rename_i xs _ _
  split at eg
  ·rename_i hw
   cases eg
   obtain ⟨p,vs,rfl,_,h1,h2⟩:=a9.tup_of sf ra
   rw[<-hK] at h1
   exact aMH pins s σ H _ x vl vu lo hi sl Q I rx hs pl pu ⟨p,vs,rfl,h1,by rw[h2.length];exact hw,fun l hl=>q _ _ _ (Ext.new sf hl) (.tup (SqT.of aY) ((tG h2 lo hi).same (aR.upd (bT sf hl))))⟩
  ·cases eg
 ·split at eg
  ·rename_i hz
   cases eg
   obtain rfl:=a9.str_of ra
   exact aMR pins s σ H _ x vl vu lo hi sl Q I rx hs pl pu ⟨_,rfl,by rw[dP];exact hz,q _ F H (Ext.refl sf) (.str _)⟩
  ·cases eg
 ·cases eg
theorem aOX(hK:X.K=c.K):SlR X (aHX c (tF c) nSl):=by
 intro pins s σ H v x vl vu lo hi sl Q I rx hs pl pu h
 obtain ⟨F,d,w,sf,ra,eg,q⟩:=h
 unfold nSl at eg
 split at eg
 ·cases eg
  obtain ⟨p,vs,rfl,h1,h2⟩:=a9.lst_of sf ra
  rw[<-hK] at h1
  exact aB6 pins s σ H _ x vl vu lo hi sl Q I rx hs pl pu ⟨p,vs,rfl,h1,fun l hl=>q _ _ _ (Ext.own sf hl) ⟨l,_,rfl,hl,aY,bT sf hl,tG h2 lo hi⟩⟩
 ·cases eg
theorem aCG{α:Type}{Rb:VR α}{g:PyData->Option Int->Option Int->R α}(hp:∀ x l h e,g x l h≠.ex e)(kb:z9 Rb){f:Sg->R PyData}{fl fh:Sg->R (Option Int)}{σ:L2.St}{H:Hp}{Q:VK}(h:tV Rb c E (eSl g f fl fh) σ H Q) :
  tSl (aHX c Rb g) (tV (bD c) c E f) (tPf c E fl) (tPf c E fh) σ H Q:=by
 obtain ⟨ρ,F,ab,k⟩:=h
 refine ⟨ρ,F,ab,(Rk.bind k).imp fun x _ q v F1 H1 s1 r1=>⟨ρ,F1,ab.ext s1,((Rk.bind q).ext s1).imp fun l _ q F2 H2 s2=>⟨ρ,F2,ab.ext (s1.trans s2),((Rk.bind q).ext (s1.trans s2)).imp fun hh _ q F3 H3 s3=>?_⟩⟩⟩
 cases eg:g x l hh with
 | bad=>rw[eg] at q;exact q.elim
 | ex e=>exact absurd eg (hp x l hh e)
 | ok d=>
  rw[eg] at q
  have s13:=(s1.trans s2).trans s3
  exact ⟨F3,x,d,s3.fh,a9.ext (s2.trans s3) r1,eg,fun w F' H' s r=>Rk.ok q w F' H' (s13.trans s) (kb _ _ _ _ _ _ s13.hh r)⟩
theorem aHY:∀ x l h e,dSl x l h≠.ex e:=by intro x l h e q;unfold dSl at q;split at q<;>(try split at q)<;>cases q
theorem aFU:∀ x l h e,nSl x l h≠.ex e:=by intro x l h e q;unfold nSl at q;split at q<;>cases q
theorem o9{f:Sg->R PyData}{fl fh:Sg->R (Option Int)}(hK:X.K=c.K)(he:PR X c E e f)(hl:PO X lo (tPf c E fl))(hh:PO X hi (tPf c E fh)):PD X c E (.Subscript e (.Slice lo hi none p2) pos) (eSl dSl f fl fh):=
 PE.imp (zF (aOW hK) he hl hh) fun σ H Q h=>aCG aHY (l3 c) h
theorem aHZ{f:Sg->R PyData}{fl fh:Sg->R (Option Int)}(hK:X.K=c.K)(he:PR X c E e f)(hl:PO X lo (tPf c E fl))(hh:PO X hi (tPf c E fh)):PN X c E (.Subscript e (.Slice lo hi none p2) pos) (eSl nSl f fl fh):=
 PE.imp (zF (aOX hK) he hl hh) fun σ H Q h=>aCG aFU (aJC c) h
noncomputable def tyN:PyData->String
 | .none=>"NoneType"
 | .bool _=>"bool"
 | .int _=>"int"
 | .str _=>"str"
 | .list _=>"list"
 | .tuple _=>"tuple"
 | .dict _=>"dict"
noncomputable def jU(t T:String):Bool:=t == T || (T == "int" && t == "bool")
noncomputable def jB(T:String)(x:PyData):R PyData:=match x with
 | .dict _=>.bad
 | x=>.ok (.bool (jU (tyN x) T))
structure Kit(K:Frag)(T:String):Prop where
 non:PySem.W.kitOne K (.type "NoneType") (.type T)=some (jU "NoneType" T)
 bl:PySem.W.kitOne K (.type "bool") (.type T)=some (jU "bool" T)
 int:PySem.W.kitOne K (.type "int") (.type T)=some (jU "int" T)
 str:PySem.W.kitOne K (.type "str") (.type T)=some (jU "str" T)
 lst:PySem.W.kitOne K (.type "list") (.type T)=some (jU "list" T)
 tup:PySem.W.kitOne K (.type "tuple") (.type T)=some (jU "tuple" T)
theorem aH0(K:Frag):Kit K "bool":=⟨rfl,rfl,rfl,rfl,rfl,rfl⟩
theorem aCH(K:Frag):Kit K "str":=⟨rfl,rfl,rfl,rfl,rfl,rfl⟩
theorem aH1{X:Cx}:jO X (.builtin "isinstance") (fun xs H Q=>∃ a ys c cv b,xs=[.ref a,c]/\SqL X.K H a ys/\aDU c=some cv/\PySem.W.kitOne X.K (.type "list") cv=some b/\Q (.bl b) H):=by
 intro pins s σ H xs us Q I r h
 obtain ⟨a,ys,c,cv,b,rfl,ha,hc,e,q⟩:=h
 obtain ⟨u,v,rfl,ru,rv⟩:=yR r
 obtain rfl:=vX hc rv
 cases (show u=Value.ref a from ru)
 obtain ⟨its,_,pl,_⟩:=I.list ha
 obtain ⟨o,h1,h2,_⟩:=pl.isList
 exact PySem.W.kia_one PySem.W.kitx_list I.kIn ⟨o,h1,h2⟩ e (fun z=>nomatch z) fun tk=>⟨.bl b,H,I.tok _,rfl,q⟩
def aH2(c:Ct)(T:String):List V->Hp->VK->Prop:=fun xs H Q=>∃ F x v d,xs=[v,.ty T]/\aR F H/\a9 c.K F H v x/\jB T x=.ok d/\∀ w F' H',Ext F H F' H'->DatV c.K F' w d->Q w H'
theorem tH(hK:X.K=c.K){T:String}(k:Kit X.K T):jO X (.builtin "isinstance") (aH2 c T):=by
 intro pins s σ H xs us Q I r h
 obtain ⟨F,x,v,d,rfl,sf,ra,eg,q⟩:=h
 cases x with
 | dict _=>cases eg
 | none=>
  cases eg
  obtain rfl:=a9.non_of ra
  exact lB pins s σ H _ us Q I r ⟨_,_,_,_,_,rfl,.pl .non,rfl,k.non,q _ F H (Ext.refl sf) (.bl _)⟩
 | bool b=>
  cases eg
  obtain rfl:=a9.bl_of ra
  exact lB pins s σ H _ us Q I r ⟨_,_,_,_,_,rfl,.pl (.bl b),rfl,k.bl,q _ F H (Ext.refl sf) (.bl _)⟩
 | int b=>
  cases eg
  obtain rfl:=a9.int_of ra
  exact lB pins s σ H _ us Q I r ⟨_,_,_,_,_,rfl,.pl (.int b),rfl,k.int,q _ F H (Ext.refl sf) (.bl _)⟩
 | str b=>
  cases eg
  obtain rfl:=a9.str_of ra
  exact lB pins s σ H _ us Q I r ⟨_,_,_,_,_,rfl,.pl (.str b),rfl,k.str,q _ F H (Ext.refl sf) (.bl _)⟩
 | tuple xs=>
  cases eg
  obtain ⟨p,vs,rfl,_,h1,h2⟩:=a9.tup_of sf ra
  rw[<-hK] at h1
  exact zQ pins s σ H _ us Q I r ⟨p,vs,_,_,_,rfl,h1,rfl,k.tup,q _ F H (Ext.refl sf) (.bl _)⟩
 | list xs=>
  cases eg
  obtain ⟨p,vs,rfl,h1,h2⟩:=a9.lst_of sf ra
  rw[<-hK] at h1
  exact aH1 pins s σ H _ us Q I r ⟨p,vs,_,_,_,rfl,h1,rfl,k.lst,q _ F H (Ext.refl sf) (.bl _)⟩
theorem aAH{T:String}{f:Sg->R PyData}(h:PE X e (tCB (aH2 c T) (dY (tV (bD c) c E f) (dY (tC (.ty T)) gG)))):PD X c E e (e1 (jB T) f):=PE.imp h fun σ H Q zz0=>by
 obtain ⟨ρ,F,ab,k⟩:=zz0
 refine ⟨ρ,F,ab,(Rk.bind k).imp fun x _ q v F1 H1 s1 r1=>?_⟩
 show aH2 c T [v,.ty T] H1 Q
 cases x with
 | dict _=>exact q.elim
 | none=>exact ⟨F1,_,v,_,rfl,s1.fh,r1,rfl,fun w F' H' s r=>Rk.ok q w F' H' (s1.trans s) r⟩
 | bool _=>exact ⟨F1,_,v,_,rfl,s1.fh,r1,rfl,fun w F' H' s r=>Rk.ok q w F' H' (s1.trans s) r⟩
 | int _=>exact ⟨F1,_,v,_,rfl,s1.fh,r1,rfl,fun w F' H' s r=>Rk.ok q w F' H' (s1.trans s) r⟩
 | str _=>exact ⟨F1,_,v,_,rfl,s1.fh,r1,rfl,fun w F' H' s r=>Rk.ok q w F' H' (s1.trans s) r⟩
 | list _=>exact ⟨F1,_,v,_,rfl,s1.fh,r1,rfl,fun w F' H' s r=>Rk.ok q w F' H' (s1.trans s) r⟩
 | tuple _=>exact ⟨F1,_,v,_,rfl,s1.fh,r1,rfl,fun w F' H' s r=>Rk.ok q w F' H' (s1.trans s) r⟩
noncomputable def pA:List PyData->Option (List Str)
 | []=>some []
 | .str s::t=>(pA t).map (s :: ·)
 | _=>none
theorem oG{K:Frag}{F:Hp}:∀ {vs:List V} {xs:List PyData} {ys:List Str},DatVs K F vs xs->pA xs=some ys->vs=ys.map V.str
 | _,_,ys,.nil,e=>by cases e;rfl
 | _,_,ys,.cons (d:=d) (ds:=t) h h2,e=>by
  cases d with
  | str b=>
   unfold pA at e
   cases q:pA t with
   | none=>rw[q] at e;cases e
   | some cs=>
    rw[q] at e
    cases e
    rw[oG h2 q,h.str_of];rfl
  | _=>cases e
noncomputable def uQ:PyData->PyData->R PyData
 | .str sep,.list xs=>match pA xs with
  | some ys=>if (ys.map fun y=>y.length).sum+ys.length * sep.length<=16777216 then .ok (.str (Txt.join sep ys)) else .bad
  | none=>.bad
 | _,_=>.bad
theorem aKT{f g:Sg->R PyData}(hK:X.K=c.K)(h:PE X e (tBM X.K "str" (aI9 X.K) (tV (bD c) c E f) (dY (tV (bD c) c E g) gG)))(hs:∀ ρ x,f ρ=.ok x->∃ z,x=.str z):PD X c E e (e2 uQ f g):=PE.imp h fun σ H Q ⟨ρ,F,ab,k⟩=>by
 refine ⟨ρ,F,ab,(Rk.bind k).imp fun x ex q v F1 H1 s1 r1=>?_⟩
 obtain ⟨z,rfl⟩:=hs ρ x ex
 obtain rfl:=a9.str_of r1
 refine ⟨rfl,ρ,F1,ab.ext s1,((Rk.bind q).ext s1).imp fun y _ q u F2 H2 s2 r2=>?_⟩
 cases y with
 | list xs=>
  have q':Rk c E F H (match pA xs with
   | some ys=>if (ys.map fun y=>y.length).sum+ys.length * z.length<=16777216 then R.ok (PyData.str (Txt.join z ys)) else .bad
   | none=>.bad) (fun d=>∀ v F' H',Ext F H F' H'->bZ c d v H F' H'->Q v H'):=q
  split at q'
  ·rename_i ys hy
   split at q'
   ·rename_i hz
    obtain ⟨p,vs,rfl,h1,h2⟩:=a9.lst_of s2.fh r2
    rw[<-hK] at h1
    obtain rfl:=oG h2 hy
    exact ⟨z,p,ys,rfl,rfl,h1,hz,Rk.ok q' _ F2 H2 (s1.trans s2) (.str _)⟩
   ·exact q'.elim
  ·exact q'.elim
 | _=>exact q.elim
noncomputable def qM:PyData->PyData->R PyData
 | .str z,.str y=>match Builtin.Str.occurrences z y 0 z.length 1 with
  | i::_=>.ok (.int i)
  | []=>.bad
 | _,_=>.bad
theorem aAI{f g:Sg->R PyData}(h:PE X e (tBM X.K "str" aFG (tV (bD c) c E f) (dY (tV (bD c) c E g) gG)))(hs:∀ ρ x,f ρ=.ok x->∃ z,x=.str z):PD X c E e (e2 qM f g):=PE.imp h fun σ H Q ⟨ρ,F,ab,k⟩=>by
 refine ⟨ρ,F,ab,(Rk.bind k).imp fun x ex q v F1 H1 s1 r1=>?_⟩
 obtain ⟨z,rfl⟩:=hs ρ x ex
 obtain rfl:=a9.str_of r1
 refine ⟨rfl,ρ,F1,ab.ext s1,((Rk.bind q).ext s1).imp fun y _ q u F2 H2 s2 r2=>?_⟩
 cases y with
 | str y=>
  have q':Rk c E F H (match Builtin.Str.occurrences z y 0 z.length 1 with
   | i::_=>R.ok (PyData.int i)
   | []=>.bad) (fun d=>∀ v F' H',Ext F H F' H'->bZ c d v H F' H'->Q v H'):=q
  split at q'
  ·rename_i i rest ho
   obtain rfl:=a9.str_of r2
   exact ⟨z,y,i,rest,rfl,rfl,ho,Rk.ok q' _ F2 H2 (s1.trans s2) (.int _)⟩
  ·exact q'.elim
 | _=>exact q.elim
noncomputable def jV:Nat->List PyData->List PyData
 | _,[]=>[]
 | i,x::t=>.tuple [.int i,x]::jV (i+1) t
theorem jW:∀ (i:Nat) (xs:List PyData),(jV i xs).length=xs.length
 | _,[]=>rfl
 | i,x::t=>by rw[jV,List.length_cons,List.length_cons,jW]
theorem tJ:∀ (k i:Nat) (xs:List PyData),(jV k xs)[i]? = (xs[i]?).map fun x=>.tuple [.int ((k+i:Nat):Int),x]
 | k,i,[]=>by simp[jV]
 | k,0,x::t=>by simp[jV]
 | k,i+1,x::t=>by rw[jV,List.getElem?_cons_succ,List.getElem?_cons_succ,tJ,show k+1+i=k+(i+1) by omega]
noncomputable def yX:PyData->R (List PyData)
 | .list xs=>if xs.length<=16777216 then .ok (jV 0 xs) else .bad
 | .str z=>if z.cps.toList.length<=16777216 then .ok (jV 0 (z.cps.toList.map fun u=>.str ⟨#[u]⟩)) else .bad
 | _=>.bad
theorem aH3{K:Frag}{F B:Hp}{a:Addr}{vs:List V}{xs:List PyData}(hz:xs.length<=16777216)(hs:∀ H1,aR F H1->aR B H1->SqL K H1 a vs)(hd:DatVs K F vs xs):Yld K (Ite K a) F B (jV 0 xs) where
 len:=by rw[dP,jW];exact hz
 go:=fun i F1 H1 h1 h2 h3 hi=>by
  rw[jW] at hi
  exact ⟨vs,vs[i]'(by rw[hd.length];exact hi),hs H1 (fun x o z=>h2 x o (h1 x o z)) h3,by simp⟩
 yld:=fun i F1 H1 v H2 x h1 h2 h3 y e=>by
  obtain ⟨p,w,hp,rfl,rfl,y⟩:=y
  have q:=y vs (hs _ (fun x o z=>h2 x o (h1 x o z)) h3)
  obtain ⟨d,e2,r⟩:=hd.get q
  rw[tJ,e2] at e
  cases e
  refine ⟨_,Ext.new h2 hp,.tup (SqT.of aY) (.cons ?_ (.cons ((r.same h1).same (aR.upd (bT h2 hp))) .nil))⟩
  rw[Nat.zero_add];exact .int _
 stop:=fun F1 H1 h1 h2 h3=>⟨vs,hs H1 (fun x o z=>h2 x o (h1 x o z)) h3,by rw[hd.length,jW];exact Nat.le_refl _⟩
theorem aFV{K:Frag}{F B:Hp}{z:Str}(hz:z.cps.toList.length<=16777216):Yld K (Ity z) F B (jV 0 (z.cps.toList.map fun u=>.str ⟨#[u]⟩)) where
 len:=by rw[dP,jW,List.length_map];exact hz
 go:=fun i F1 H1 h1 h2 h3 hi=>by
  rw[jW,List.length_map,Array.length_toList] at hi
  exact hi
 yld:=fun i F1 H1 v H2 x h1 h2 h3 y e=>by
  obtain ⟨p,u,hp,rfl,rfl,hu⟩:=y
  rw[tJ,List.getElem?_map,Array.getElem?_toList,hu] at e
  cases e
  refine ⟨_,Ext.new h2 hp,.tup (SqT.of aY) (.cons ?_ (.cons (.str _) .nil))⟩
  rw[Nat.zero_add];exact .int _
 stop:=fun F1 H1 h1 h2 h3=>by
  show (jV 0 _).length=z.cps.size
  rw[jW,List.length_map,Array.length_toList]
theorem aM4{tg:Expr}{f:Sg->R PyData}(hK:X.K=c.K)(h:PI X tg e (aI7 X.K (dY (tV (bZ c) c E f) gG)))(h':PI X tg e (aFH (dY (tV (bZ c) c E f) gG))):PI0 X c E tg e (e1 yX f):=PI.imp (PI.or h h') fun σ H Q ⟨ρ,F,ab,k⟩=>by
 have k':=Rk.bind k
 cases hf:f ρ with
 | bad=>rw[hf] at k';exact k'.elim
 | ex x=>rw[hf] at k';exact .inl ⟨ρ,F,ab,by rw[hf];exact k'⟩
 | ok d=>
  rw[hf] at k'
  have k2:=Rk.ok k'
  unfold yX at k2
  split at k2
  ·rename_i xs
   split at k2
   ·rename_i hz
    refine .inl ⟨ρ,F,ab,?_⟩
    rw[hf]
    intro v F' H' s r
    obtain ⟨p,vs,rfl,h1,h2⟩:=DatV.lst_of r
    refine ⟨p,rfl,⟨vs,?_⟩,?_⟩
    · rw [hK]; exact h1.same s.fh
    · rw [hK]; exact Rk.ok k2 _ F' H' s (aH3 hz (fun H1 q _ => h1.same q) h2)
   ·exact k2.elim
  ·rename_i z
   split at k2
   ·rename_i hz
    refine .inr ⟨ρ,F,ab,?_⟩
    rw[hf]
    intro v F' H' s r
    obtain rfl:=DatV.str_of r
    exact ⟨z,rfl,Rk.ok k2 _ F' H' s (aFV hz)⟩
   ·exact k2.elim
  ·exact k2.elim
end
end Fl
namespace Fl
open PySem L2 PyProof.Rows
noncomputable def kY(kvs:List (PyData×PyData))(k:PyData):Option PyData:=(kvs.find? fun p=>decide (p.1=k)).map (·.2)
noncomputable def fX(kvs:List (PyData×PyData))(k:PyData):Bool:=(kY kvs k).isSome
noncomputable def putM(kvs:List (PyData×PyData))(k v:PyData):List (PyData×PyData):=if fX kvs k=true then kvs.map (fun p=>if p.1=k then (p.1,v) else p) else kvs++[(k,v)]
theorem aCI{K:Frag}{F:Hp}{k:PyData}:∀ {es:List Ent} {kvs:List (PyData×PyData)},es.map (·.1)=kvs.map (·.1)->DatVs K F (es.map (·.2.2)) (kvs.map (·.2))->
  (atE es k=none/\kY kvs k=none)\/∃ v d,atE es k=some v/\kY kvs k=some d/\DatV K F v d
 | [],[],_,_=>.inl ⟨rfl,rfl⟩
 | [],_::_,h,_=>by cases h
 | _::_,[],h,_=>by cases h
 | e::es,p::kvs,h,r=>by
  rw[List.map_cons,List.map_cons] at h r
  injection h with h1 h2
  obtain ⟨v,t,e1,r1,r2⟩:=r.cons_of
  rw[List.cons.injEq] at e1
  obtain ⟨rfl,rfl⟩:=e1
  have ih:=aCI (k:=k) h2 r2
  unfold atE kY at ih ⊢
  rw[List.find?_cons,List.find?_cons,h1]
  by_cases q:p.1=k
  · rw [decide_eq_true q]; exact .inr ⟨_, _, rfl, rfl, r1⟩
  · rw [decide_eq_false q]; exact ih
theorem MapRel.get{K:Frag}{F:Hp}{es:List Ent}{kvs:List (PyData×PyData)}(m:MapRel K F es kvs)(k:PyData):(atE es k=none/\kY kvs k=none)\/∃ v d,atE es k=some v/\kY kvs k=some d/\DatV K F v d:=aCI m.k1 m.vs
theorem MapRel.has{K:Frag}{F:Hp}{es:List Ent}{kvs:List (PyData×PyData)}(m:MapRel K F es kvs)(k:PyData):(atE es k).isSome=fX kvs k:=by
 unfold fX
 rcases m.get k with ⟨a,b⟩|⟨v,d,a,b,_⟩<;>rw[a,b]<;>rfl
theorem aAJ{kvs:List (PyData×PyData)}{k:PyData}:fX kvs k=true↔k∈kvs.map (·.1):=by
 unfold fX kY
 rw[Option.isSome_map]
 induction kvs with
 | nil=>simp
 | cons p t ih=>
  rw[List.find?_cons]
  by_cases q:p.1=k
  ·rw[decide_eq_true q];simp[q]
  ·rw[decide_eq_false q,ih,List.map_cons]
   exact ⟨fun z=>List.mem_cons_of_mem _ z,fun z=>(List.mem_cons.mp z).resolve_left (fun w=>q w.symm)⟩
theorem aFW{kvs:List (PyData×PyData)}{k v:PyData}:(putM kvs k v).map (·.1)=if fX kvs k=true then kvs.map (·.1) else kvs.map (·.1)++[k]:=by
 unfold putM
 cases h:fX kvs k with
 | true=>
  rw[if_pos rfl,if_pos rfl,List.map_map]
  refine List.map_congr_left fun p _=>?_
  show (if p.1=k then (p.1,v) else p).1=p.1
  split<;>rfl
 | false=>rw[if_neg (by decide),if_neg (by decide),List.map_append];rfl
theorem aCJ{K:Frag}{F:Hp}{k d:PyData}{v:V}(r:DatV K F v d):∀ {es:List Ent} {kvs:List (PyData×PyData)},es.map (·.1)=kvs.map (·.1)->DatVs K F (es.map (·.2.1)) (kvs.map (·.1))->DatVs K F (es.map (·.2.2)) (kvs.map (·.2))->
  (es.map fun e=>if e.1=k then (e.1,e.2.1,v) else e).map (·.1)=(kvs.map fun p=>if p.1=k then (p.1,d) else p).map (·.1) /\
  DatVs K F ((es.map fun e=>if e.1=k then (e.1,e.2.1,v) else e).map (·.2.1)) ((kvs.map fun p=>if p.1=k then (p.1,d) else p).map (·.1)) /\
  DatVs K F ((es.map fun e=>if e.1=k then (e.1,e.2.1,v) else e).map (·.2.2)) ((kvs.map fun p=>if p.1=k then (p.1,d) else p).map (·.2))
 | [],[],_,_,_=>⟨rfl,.nil,.nil⟩
 | [],_::_,h,_,_=>by cases h
 | _::_,[],h,_,_=>by cases h
 | e::es,p::kvs,h,rk,rv=>by
  rw[List.map_cons,List.map_cons] at h rk rv
  injection h with h1 h2
  obtain ⟨_,_,e1,r1,r2⟩:=rk.cons_of
  rw[List.cons.injEq] at e1
  obtain ⟨rfl,rfl⟩:=e1
  obtain ⟨_,_,e1,q1,q2⟩:=rv.cons_of
  rw[List.cons.injEq] at e1
  obtain ⟨rfl,rfl⟩:=e1
  obtain ⟨a1,a2,a3⟩:=aCJ r h2 r2 q2
  simp only[List.map_cons]
  rw[h1,a1]
  by_cases q:p.1=k
  · rw [if_pos q, if_pos q]; exact ⟨rfl, .cons r1 a2, .cons r a3⟩
  · rw [if_neg q, if_neg q]; exact ⟨by rw [h1], .cons r1 a2, .cons q1 a3⟩
theorem MapRel.put{K:Frag}{F:Hp}{es:List Ent}{kvs:List (PyData×PyData)}{k d:PyData}{kv v:V}(m:MapRel K F es kvs)(rk:DatV K F kv k)(r:DatV K F v d):MapRel K F (qI es k kv v) (putM kvs k d):=by
 have hh:=m.has k
 have nd:((putM kvs k d).map (·.1)).Nodup:=by
  rw[aFW]
  cases h:fX kvs k with
  | true=>rw[if_pos rfl];exact m.nd
  | false=>
   rw[if_neg (by decide),List.nodup_append]
   refine ⟨m.nd,by simp,fun a ha b hb z=>?_⟩
   rw[List.mem_singleton] at hb
   subst hb z
   rw[aAJ.mpr ha] at h
   cases h
 unfold qI
 rw[hh]
 unfold putM at nd ⊢
 cases h:fX kvs k with
 | true=>
  rw[h,if_pos rfl] at nd
  rw[if_pos rfl,if_pos rfl]
  obtain ⟨a1,a2,a3⟩:=aCJ (k:=k) r m.k1 m.k2 m.vs
  exact ⟨a1,a2,a3,nd⟩
 | false=>
  rw[h,if_neg (by decide)] at nd
  rw[if_neg (by decide),if_neg (by decide)]
  refine ⟨by rw[List.map_append,List.map_append,m.k1];rfl,?_,?_,nd⟩
  ·rw[List.map_append,List.map_append];exact m.k2.append (.cons rk .nil)
  ·rw[List.map_append,List.map_append];exact m.vs.append (.cons r .nil)
theorem qN{K:Frag}{F:Hp}:∀ {es:List Ent} {kvs:List (PyData×PyData)},es.map (·.1)=kvs.map (·.1)->DatVs K F (es.map (·.2.1)) (kvs.map (·.1))->∀ e∈es,DatV K F e.2.1 e.1
 | [],_,_,_,e,he=>by cases he
 | _::_,[],h,_,_,_=>by cases h
 | e0::es,p::kvs,h,rk,e,he=>by
  rw[List.map_cons,List.map_cons] at h rk
  injection h with h1 h2
  obtain ⟨_,_,e1,r1,r2⟩:=rk.cons_of
  rw[List.cons.injEq] at e1
  obtain ⟨rfl,rfl⟩:=e1
  rcases List.mem_cons.mp he with z|z
  · subst z; rw [h1]; exact r1
  · exact qN h2 r2 e z
section
variable{X:Cx}{c:Ct}{E:XK}{e a b:Expr}{st:Stmt}{pos:Pos}
theorem aJE{ρ:Sg}{σ:L2.St}{F H:Hp}{i:Nat}{kvs:List (PyData×PyData)}{k:PyData}{kv:V}(hK:X.K=c.K)(hW:X.w=c.w)(ab:Ab c ρ σ F H)(hi:ρ[i]? = some (some (.m kvs)))(hk:DatV c.K F kv k)(hs:eW k (kvs.map (·.1))=true) :
  ∃ p es,σ[i]? = some (some (.ref p))/\DicAt X H p es k kv/\MapRel c.K F es kvs:=by
 obtain ⟨v,hp,p,es,rfl,⟨ep,h2⟩,h3,h4,h5⟩:=ab.slot i _ hi
 refine ⟨p,es,hp,⟨⟨ep,by rw[hW];exact h2⟩,fun e he=>by rw[hK];exact (qN h5.k1 h5.k2 e he).same ab.fh,by rw[h5.k1];exact h5.nd,by rw[hK];exact hk.same ab.fh,by rw[h5.k1];exact hs⟩,h5⟩
theorem aM5{ρ:Sg}{σ:L2.St}{F H:Hp}{i:Nat}{kvs:List (PyData×PyData)}{k:PyData}{kv:V}(hK:X.K=c.K)(hW:X.w=c.g.w)(ab:Ab c ρ σ F H)(hi:ρ[i]? = some (some (.f kvs)))(hk:DatV c.K F kv k)(hs:eW k (kvs.map (·.1))=true) :
  ∃ p es,σ[i]? = some (some (.ref p))/\DicAt X H p es k kv/\MapRel c.K F es kvs:=by
 obtain ⟨v,hp,p,es,rfl,⟨ep,h2⟩,h5⟩:=ab.slot i _ hi
 refine ⟨p,es,hp,⟨⟨ep,by rw[hW];exact ab.fh _ _ h2⟩,fun e he=>by rw[hK];exact (qN h5.k1 h5.k2 e he).same ab.fh,by rw[h5.k1];exact h5.nd,by rw[hK];exact hk.same ab.fh,by rw[h5.k1];exact hs⟩,h5⟩
def aJF(w:World):TE:=fun _ H Q=>∀ p,H p=none->Q (.ref p) (upd H p (kA w p [] 0))
theorem aCK:PE X (.Dict [] [] pos) (aJF X.w):=fun pins s σ H Q I h=>
 wpAny_Dict_empty ⟨.ref s.heap.objs.size,_,I.laid (a:=s.heap.objs.size) (o:=kA X.w s.heap.objs.size [] 0) (t':=s.toks) (fun _ _ q=>Heap.get?_push_of_some _ q) (Nat.le_refl _)
  (v4 (beq_eq_false_iff_ne.mpr (Ne.symm (Nat.ne_of_lt I.big))) ⟨_,#[],Heap.get?_push_size _ rfl,⟨rfl,rfl,rfl⟩,rfl,.nil⟩),rfl,h _ (I.hok.fresh (Nat.le_refl _))⟩
noncomputable def rY(i:Nat):Sg->R Fw:=fun ρ=>.ok (.nx (ρ.set i (some (.m []))))
theorem aCL{i:Nat}{w:World}(hW:w=c.w)(h:PS X st (jR (aJF w) (jN i))):PSf X c E st (rY i):=PS.imp h fun D σ H ⟨ρ,F,ab,k⟩=>fun p hp=>by
 subst hW
 exact Rk.ok k _ F _ (cQ F) (ab.setM (Ext.own ab.fh hp) hp aY (bT ab.fh hp) ⟨rfl,.nil,.nil,List.nodup_nil⟩)
noncomputable def tK(neg:Bool)(i:Nat)(f:Sg->R PyData):Sg->R PyData:=fun ρ=>(f ρ).bind fun k=>match ρ[i]? with
 | some (some (.m kvs))=>if eW k (kvs.map (·.1))=true then .ok (.bool (if neg=true then !fX kvs k else fX kvs k)) else .bad
 | some (some (.f kvs))=>if eW k (kvs.map (·.1))=true then .ok (.bool (if neg=true then !fX kvs k else fX kvs k)) else .bad
 | _=>.bad
def aH4(X:Cx)(neg:Bool):R2:=fun y x H Q=>∃ p es k,x=.ref p/\DicAt X H p es k y/\Q (.bl (if neg=true then !(atE es k).isSome else (atE es k).isSome)) H
theorem aAK(hu:X.A.units+64 < cLine):OpR X (compareOp .NotIn) (aH4 X true):=by
 intro pins s σ H y x v u Q I ry rx h
 obtain ⟨p,es,k,rfl,D,q⟩:=h
 cases (show u=Value.ref p from rx)
 exact aKN hu D I ry fun s' I'=>⟨.bl _,H,I',rfl,q⟩
theorem aH5{i:Nat}{neg:Bool}{f:Sg->R PyData}(hK:X.K=c.K)(hW:X.w=c.w)(hg:c.w=c.g.w){σ:L2.St}{H:Hp}{Q:VK}(h:tV (bZ c) c E (tK neg i f) σ H Q):tOp (aH4 X neg) (tV (bZ c) c E f) (gF i) σ H Q:=by
 obtain ⟨ρ,F,ab,k⟩:=h
 refine ⟨ρ,F,ab,(Rk.bind k).imp fun d _ q v F1 H1 s1 r1=>?_⟩
 split at q
 ·rename_i kvs hi
  split at q
  ·rename_i hs
   obtain ⟨p,es,hp,D,m⟩:=aJE hK hW (ab.ext s1) hi r1 hs
   refine ⟨_,hp,p,es,d,rfl,D,?_⟩
   rw[m.has]
   exact Rk.ok q _ F1 H1 s1 (.bl _)
  ·exact q.elim
 ·rename_i kvs hi
  split at q
  ·rename_i hs
   obtain ⟨p,es,hp,D,m⟩:=aM5 hK (hW.trans hg) (ab.ext s1) hi r1 hs
   refine ⟨_,hp,p,es,d,rfl,D,?_⟩
   rw[m.has]
   exact Rk.ok q _ F1 H1 s1 (.bl _)
  ·exact q.elim
 ·exact q.elim
theorem aFX{i:Nat}{neg:Bool}{f:Sg->R PyData}(hK:X.K=c.K)(hW:X.w=c.w)(h:PT X e (aDG (tOp (aH4 X neg) (tV (bZ c) c E f) (gF i))))(hg:c.w=c.g.w:=by rfl):PTf X c E e (e1 asB (tK neg i f)):=PT.imp h fun σ H Q q=>aH5 hK hW hg (rT q)
noncomputable def aOY(i:Nat)(f:Sg->R PyData):Sg->R PyData:=fun ρ=>match ρ[i]? with
 | some (some (.m kvs))=>(f ρ).bind fun k=>if eW k (kvs.map (·.1))=true then match kY kvs k with
  | some v=>.ok v
  | none=>.bad else .bad
 | some (some (.f kvs))=>(f ρ).bind fun k=>if eW k (kvs.map (·.1))=true then match kY kvs k with
  | some v=>.ok v
  | none=>.bad else .bad
 | _=>.bad
noncomputable def rZ(i:Nat)(f g:Sg->R PyData):Sg->R Fw:=fun ρ=>(g ρ).bind fun v=>match ρ[i]? with
 | some (some (.m kvs))=>(f ρ).bind fun k=>if eW k (kvs.map (·.1))=true/\kvs.length<=16777216 then .ok (.nx (ρ.set i (some (.m (putM kvs k v))))) else .bad
 | _=>.bad
def aJG(X:Cx):aDB:=fun o i v H Q=>∃ p es k,o=.ref p/\DicAt X H p es k i/\es.length<=sizeLine/\∀ ep,Q (upd H p (kA X.w p (qI es k i v) ep))
theorem aAL(hu:X.A.units+64 < cLine):aGU X (aJG X):=by
 intro pins s σ H o i v ov iv u Q I ro ri rv h
 obtain ⟨p,es,k,rfl,D,hz,q⟩:=h
 cases (show ov=Value.ref p from ro)
 exact aKO hu D I ri rv hz fun ep s' I'=>⟨_,I',q ep⟩
theorem aCM{i:Nat}{f g:Sg->R PyData}(hK:X.K=c.K)(hW:X.w=c.w)(h:PS X st (jR (tV (bZ c) c E g) (sX (gF i) (tV (bZ c) c E f) (aJG X)))):PSf X c E st (rZ i f g):=PS.imp h fun D σ H ⟨ρ,F,ab,k⟩=>by
 refine ⟨ρ,F,ab,(Rk.bind k).imp fun x _ q v F1 H1 s1 r1=>?_⟩
 split at q
 ·rename_i kvs hi
  have ab1:=ab.ext s1
  obtain ⟨_,hp,p,es,rfl,_⟩:=ab1.slot i _ hi
  refine ⟨_,hp,ρ,F1,ab1,((Rk.bind q).ext s1).imp fun d _ q u F2 H2 s2 r2=>?_⟩
  have ab2:=ab1.ext s2
  split at q
  ·rename_i hs
   obtain ⟨p',es',hp',D',m⟩:=aJE hK hW ab2 hi r2 hs.1
   rw[hp] at hp'
   cases hp'
   refine ⟨p,es',d,rfl,D',?_,?_⟩
   ·have:es'.length=kvs.length:=by have:=congrArg List.length m.k1;simpa using this
    rw[this,dP];exact hs.2
   ·intro ep
    rw[hW]
    exact Rk.ok q σ F2 _ (s1.trans s2).ff (ab2.putM hi hp (m.put r2 (DatV.same s2.ff r1)))
  ·exact q.elim
 ·exact q.elim
end
theorem aAM{K:Frag}{a:Addr}{vs:List V}{xs:List PyData}(m:Mc.oY K a vs)(h:∀ F,DatVs K F vs xs)(F:Hp):DatV K F (.ref a) (.tuple xs):=.tup (m.sq F) (h F)
end Fl
namespace Fl
open PySem L2 PyProof.Rows
section
variable{X:Cx}{c:Ct}{E:XK}{e a b:Expr}{st:Stmt}{pos p2:Pos}
def qO(fs:PyData->Sg->Option Sg)(f:Sg->R PyData):Sg->R Fw:=fun ρ=>(f ρ).bind fun x=>(wC (fs x ρ)).bind fun ρ'=>.ok (.nx ρ')
theorem qP{g:TG}{fs:PyData->Sg->Option Sg}{is:List Nat}{f:Sg->R PyData}(hg:Tg c g fs is)(h:PS X st (jR (tV (bZ c) c E f) g)):PSf X c E st (qO fs f):=PS.imp h fun D σ H zz0=>by
 obtain ⟨ρ,F,ab,k⟩:=zz0
 refine ⟨ρ,F,ab,(Rk.bind k).imp fun x _ q v F1 H1 s1 r1=>?_⟩
 cases h1:fs x ρ with
 | none=>rw[h1] at q;exact q.elim
 | some ρ'=>
  rw[h1] at q
  exact hg v x ρ ρ' σ F1 H1 _ (ab.ext s1) r1 h1 fun σ' _ _ ab'=>Rk.ok q σ' F1 H1 s1.ff ab'
noncomputable def aM6:PyData->R PyData
 | .str z=>if z.length<=16777216 then .ok (.str ⟨z.cps.toList.reverse.toArray⟩) else .bad
 | _=>.bad
def aP2(f:Sg->R PyData)(g:Sg->R (Option Int)):Sg->R PyData:=fun ρ=>(f ρ).bind fun x=>(g ρ).bind fun o=>if o=some (-1) then aM6 x else .bad
end
end Fl
namespace Fl
open PySem L2 PyProof.Rows
theorem aM7{P:Program}{w:World}{K:Frag}{mg:Str->Option Value}{base:Heap}{T:Hp}{x:Str}{st:Stmt}{N ps:List Str}{k:Nat}{f:Addr}{fd:FuncData}{fb:Sg->R Fw}(FL:Fun K x x st f fd)(S:FnScope N ps (aM st))
  (hbody:∀ (cdv:Value) (A:Around) (outer:List Env) (s:Shared) (H F:Hp) (E:XK),Room k (A.deeper (envOfC x (aM st) s.heap.objs.size f cdv))->
   mN ((i7 (CXe P w) P w K mg base N x (aM st) f cdv A outer s H E).fly E) ⟨K,mg,w,F,H,gOf P w K mg base T,(envOfC x (aM st) s.heap.objs.size f cdv).cells,fun _=>none⟩ E (cC st) fb):FnOk P w K mg base (CXe P w) (k+1) f fd ps (spF (gOf P w K mg base T) K mg ps.length (fnF N.length fb)):=by
 refine FL.okX S (fun vs H Q E h=>?_) (fun cdv A outer s H vs Q E hr h=>?_)
 ·obtain ⟨F,as,_,_,h2,h3,_⟩:=h
  rw[h2.len,h3]
 ·obtain ⟨F,as,h0,h1,h2,h3,h4⟩:=h
  exact ⟨_,hbody cdv A outer s H F E hr,wE h0 h1 h2 h4⟩
def yY(K:Frag)(T:Hp):Sp:=fun vs H Q _=>∃ (a:Addr) (ns:List Int),vs=[.ref a]/\ns.length<=63/\aR T H/\SqL K H a (ns.map V.int)/\∀ H',Q (.bl true) H'
theorem aAN{K:Frag}{H:Hp}:∀ (ns:List Int),DatVs K H (ns.map V.int) (ns.map PyData.int)
 | []=>.nil
 | n::t=>.cons (.int n) (aAN t)
theorem aM8{P:Program}{w:World}{K:Frag}{mg:Str->Option Value}{base:Heap}{T:Hp}{k:Nat}{f:Addr}{fd:FuncData}{x:Str}{G:List A->R A}(h:FnOk P w K mg base (CXe P w) k f fd [x] (spF (gOf P w K mg base T) K mg 1 G))
  (hl:∀ ns:List Int,ns.length<=63->G [.d (.list (ns.map .int))]=.ok (.d (.bool true))):FnOk P w K mg base (CXe P w) k f fd [x] (yY K T):=h.imp fun vs H Q E=>by
 rintro ⟨a,ns,rfl,hn,ht,hs,q⟩
 refine ⟨H,[.d (.list (ns.map .int))],ht,cQ H,⟨.lst hs (aAN ns),trivial⟩,rfl,?_⟩
 rw[hl ns hn]
 intro v F' H' _ r
 obtain rfl:=DatV.bl_of r
 exact q H'
theorem aOZ(P:Program)(w:World)(H:Hp)(s:Shared)(e:Value)(s':Shared)(h:CXe P w [] H s (fun _ _ _=>False) e s'):False:=by
 obtain ⟨_,_,_,_,_,_,_,_,_,_,_,q⟩:=h
 exact q
theorem aM9{l:PySem.W.OpenLaw}{k:Nat}{q:Program}{loose:List Str}{XP:(Str->Option Value)->Heap->Prop}{YP:World->Heap->Prop}{d:DefRec}{K:Params->Frag}{x:Str}
  (hn:l.most=some 63) (hdf:d.params.defaults=[]) (hr:Room k callerA)
  (hY:∀ (w:World) (h:Heap),YP w h->(K w.params).In h)
  (F:∀ (w:World) (mg:Str->Option Value) (fa:Addr) (h:Heap),(K w.params).In h->h.Ns mainGlobals mg->mg d.name=some (.ref fa)->
   ∃ fd:FuncData,(∀ (s:Shared) (u:Value),BindsTo s fd ⟨[u],[]⟩ [(x,u)]) /\
    ∀ base:Heap,(K w.params).In base->base.Ns mainGlobals mg->FnOk l.prog w (K w.params) mg base (CXe l.prog w) k fa fd [x] (yY (K w.params) fun _=>none)) :
  PySem.W.WalkO q loose XP YP l.row.toRowW d [] (fun f vs=>PySem.call f vs):=
 walk_of (K:=K) (CX:=fun w=>CXe l.prog w) (sp:=fun w=>yY (K w.params) fun _=>none) hn (by decide) hdf hr hY F (fun w H a ns hl hO hS=>⟨a,ns,rfl,hl,fun _ _ z=>(nomatch z),hS,fun _=>rfl⟩) fun w H s e s' z=>aOZ _ w H s e s' z
end Fl
namespace Fl
open PySem L2 PyProof.Rows
variable{X:Cx}{c:Ct}{E:XK}{e:Expr}
noncomputable def d2(G:Int->Int->Int):PyData->PyData->R PyData
 | .int i,.int j=>.ok (.int (G i j))
 | _,_=>.bad
noncomputable def d1(G:Int->Int):PyData->R PyData
 | .int i=>.ok (.int (G i))
 | _=>.bad
noncomputable def eQ(i j:Int):Int:=if j < i then j else i
def wF(i:Int):Int:=if i < 0 then -i else i
theorem aAO{G:Int->Int->Int}{f g:Sg->R PyData}(h0:PE X e (tCB (fun xs H Q=>∃ i j,xs=[.int i,.int j]/\Q (.int (G i j)) H) (dY (tV (bD c) c E f) (dY (tV (bD c) c E g) gG)))):PD X c E e (e2 (d2 G) f g):=PE.imp h0 fun σ H Q zz0=>by
 obtain ⟨ρ,F,ab,k⟩:=zz0
 refine ⟨ρ,F,ab,(Rk.bind k).imp fun x ex q v F1 H1 s1 r1=>?_⟩
 refine ⟨ρ,F1,ab.ext s1,((Rk.bind q).ext s1).imp fun y _ q u F2 H2 s2 r2=>?_⟩
 cases x with
 | int i=>
  cases y with
  | int j=>
   obtain rfl:=a9.int_of r1
   obtain rfl:=a9.int_of r2
   exact ⟨i,j,rfl,Rk.ok q _ F2 H2 (s1.trans s2) (.int _)⟩
  | _=>exact q.elim
 | _=>exact q.elim
theorem aKU{G:Int->Int}{f:Sg->R PyData}(h0:PE X e (tCB (fun xs H Q=>∃ i,xs=[.int i]/\Q (.int (G i)) H) (dY (tV (bD c) c E f) gG))):PD X c E e (e1 (d1 G) f):=PE.imp h0 fun σ H Q zz0=>by
 obtain ⟨ρ,F,ab,k⟩:=zz0
 refine ⟨ρ,F,ab,(Rk.bind k).imp fun x ex q v F1 H1 s1 r1=>?_⟩
 cases x with
 | int i=>
  obtain rfl:=a9.int_of r1
  exact ⟨i,rfl,Rk.ok q _ F1 H1 s1 (.int _)⟩
 | _=>exact q.elim
end Fl
namespace L2
open PySem PyProof.Rows
variable{X:Cx}
end L2
namespace Fl
open PySem L2 PyProof.Rows
variable{X:Cx}{c:Ct}{E:XK}{e:Expr}
end Fl
namespace Fl
open PySem L2 PyProof.Rows
variable{X:Cx}{c:Ct}{E:XK}{e:Expr}{st:Stmt}
end Fl
namespace L2
open PySem PyProof.Rows
theorem aCN(vs:List Value):∀ (n:Nat) (acc:List Value),(List.replicate n vs.toArray).foldl (· ++ ·) acc.toArray=(acc++(List.replicate n vs).flatten).toArray
 | 0,acc=>by simp
 | n+1,acc=>by
  rw[List.replicate_succ,List.foldl_cons,List.append_toArray,aCN vs n,List.replicate_succ,List.flatten_cons,List.append_assoc]
end L2
namespace Fl
open PySem L2 PyProof.Rows
section
variable{X:Cx}{c:Ct}{E:XK}{e a b:Expr}{pos:Pos}
theorem aAP{vs:List V}{its:List Value}(h:bJ vs its):∀ n:Nat,bJ (List.replicate n vs).flatten (List.replicate n its).flatten
 | 0=>.nil
 | n+1=>by
  rw[List.replicate_succ,List.flatten_cons,List.replicate_succ,List.flatten_cons]
  exact h.append (aAP h n)
theorem xO{K:Frag}{F:Hp}{vs:List V}{xs:List PyData}(h:DatVs K F vs xs):∀ n:Nat,DatVs K F (List.replicate n vs).flatten (List.replicate n xs).flatten
 | 0=>.nil
 | n+1=>by
  rw[List.replicate_succ,List.flatten_cons,List.replicate_succ,List.flatten_cons]
  exact h.append (xO h n)
end
end Fl
namespace Fl
open PySem L2 PyProof.Rows
theorem iQ{H:Hp}{p:Addr}{a b:HO}:upd (upd H p a) p b=upd H p b:=by
 funext x
 by_cases q:x=p
 · subst q; rw [aY, aY]
 · rw [aP q, aP q, aP q]
abbrev TP:=L2.St->Hp->(List (V×V)->Hp->Prop)->Prop
def aP3(p:V×V)(u:Value×Value):Prop:=bS p.1 u.1/\bS p.2 u.2
def PPr(X:Cx)(keys:List (Option Expr))(vals:List Expr)(t:TP):Prop:=∀ (pos:Pos) (pins:List (Addr×Obj)) (s:Shared) (σ:L2.St) (H:Hp) (Q:List (V×V)->Hp->Prop),Inv X pins σ H s->t σ H Q->
 wpAny (model X.prog X.w) X.A (evalPairs (pairTrees keys vals X.env pos)) (fun vs s'=>∃ ps H',Inv X pins σ H' s'/\Paired aP3 ps vs/\Q ps H') X.xe s
section
variable{X:Cx}{c:Ct}{E:XK}{e a b:Expr}{st:Stmt}{pos:Pos}
noncomputable def aAQ:List (PyData×PyData)->List (PyData×PyData)->R (List (PyData×PyData))
 | acc,[]=>.ok acc
 | acc,(k,v)::t=>if eW k (acc.map (·.1))=true/\acc.length<=16777216 then aAQ (putM acc k v) t else .bad
theorem PPr.imp{X:Cx}{ks:List (Option Expr)}{vs:List Expr}{t t':TP}(h:PPr X ks vs t)(i:∀ σ H Q,t' σ H Q->t σ H Q):PPr X ks vs t':=fun pos pins s σ H Q I q=>h pos pins s σ H Q I (i σ H Q q)
noncomputable def aP4:Sg->R (List (PyData×PyData)):=fun _=>.ok []
def aO0(f g:Sg->R PyData)(r:Sg->R (List (PyData×PyData))):Sg->R (List (PyData×PyData)):=fun ρ=>(f ρ).bind fun x=>(g ρ).bind fun y=>(r ρ).bind fun t=>.ok ((x,y)::t)
noncomputable def aO1(i:Nat)(f:Sg->R (List (PyData×PyData))):Sg->R Fw:=fun ρ=>(f ρ).bind fun kvs=>(aAQ [] kvs).bind fun res=>.ok (.nx (ρ.set i (some (.m res))))
end
end Fl
namespace Fl
open PySem L2 PyProof.Rows
section
variable{X:Cx}{c:Ct}{E:XK}{e a b:Expr}{st:Stmt}{pos:Pos}
noncomputable def aNA(i:Nat)(f g:Sg->R PyData):Sg->R PyData:=fun ρ=>match ρ[i]? with
 | some (some (.m kvs))=>(f ρ).bind fun k=>(g ρ).bind fun y=>if eW k (kvs.map (·.1))=true then .ok ((kY kvs k).getD y) else .bad
 | _=>.bad
end
end Fl
namespace Fl
open PySem L2 PyProof.Rows
section
variable{X:Cx}{c:Ct}{E:XK}
theorem aAR{K:Frag}{F:Hp}{g:Str}{d:PyData}:∀ {fvs:List (Str×V)} {fs:List (Str×PyData)},fvs.map (·.1)=fs.map (·.1)->DatVs K F (fvs.map (·.2)) (fs.map (·.2))->fs.lookup g=some d->∃ v,fvs.lookup g=some v/\DatV K F v d
 | [],[],_,_,h=>by cases h
 | [],_::_,h,_,_=>by cases h
 | _::_,[],h,_,_=>by cases h
 | (a,v)::fvs,(b,x)::fs,h,r,e=>by
  rw[List.map_cons,List.map_cons] at h r
  injection h with h1 h2
  obtain ⟨v',t,e1,r1,r2⟩:=r.cons_of
  rw[List.cons.injEq] at e1
  obtain ⟨rfl,rfl⟩:=e1
  simp only at h1
  subst h1
  rw[List.lookup_cons] at e ⊢
  cases q:(g == a) with
  | true=>rw[q] at e;cases e;exact ⟨v,rfl,r1⟩
  | false=>rw[q] at e;exact aAR h2 r2 e
end
end Fl
namespace Fl
open PySem L2 PyProof.Rows
end Fl
namespace Fl
open PySem L2 PyProof.Rows
section
variable{X:Cx}{c:Ct}{E:XK}{e:Expr}{P:Program}{w:World}{base:Heap}
end
end Fl
namespace L2
open PySem PySem.Spec PyProof.Rows
theorem cS.got{P:Program}{w:World}{H:Hp}{h:Heap}{a:Addr}{o:HO}(x:cS P w H h a o):∃ u,h.get? a=some u:=by
 cases o with
 | lst xs=>obtain ⟨_,_,_,_,e⟩:=x;exact ⟨_,e⟩
 | tup xs=>obtain ⟨_,_,_,⟨o,e,_⟩⟩:=x;exact ⟨_,e⟩
 | dK kvs=>obtain ⟨_,_,_,_,o,_,_,e,_⟩:=x;exact ⟨_,e⟩
 | dT kvs=>obtain ⟨_,_,_,_,o,_,_,e,_⟩:=x;exact ⟨_,e⟩
 | set S n=>obtain ⟨o,_,_,_,e,_⟩:=x;exact ⟨_,e⟩
 | ins C dx fs=>obtain ⟨_,_,_,e,_⟩:=x;exact ⟨_,e⟩
 | own y=>exact x
 | xd fs=>obtain ⟨_,⟨_,_,_,e,_⟩,_⟩:=x;exact ⟨_,e⟩
 | rng lo hi=>obtain ⟨_,_,_,e⟩:=x;exact ⟨_,e⟩
 | frz ob u=>exact ⟨_,x.1⟩
 | tbl ps=>obtain ⟨_,e,_⟩:=x;exact ⟨_,e⟩
 | cod q=>obtain ⟨c,o,vs,t,e,ho,_⟩:=x;cases e;exact ⟨_,ho⟩
 | met f y=>exact ⟨_,x⟩
 | ext φ=>exact x.2.1
theorem HOk.free{P:Program}{w:World}{H:Hp}{h:Heap}{a:Addr}(x:HOk P w H h)(e:h.get? a=none):H a=none:=by
 cases q:H a with
 | none=>rfl
 | some u=>
  obtain ⟨o,z⟩:=(x a u q).got
  rw[e] at z;cases z
structure ErrP(K:Frag)(mg:Str->Option Value)(x:Str)(W C:Addr):Prop where
 c:SX.ExcC K W C
 m:mg x=some (.ref C)
 lk:∃ nm q N bs sn sub ab col dd k0 k1 k2 k3 k5,K.lookup C=some (excClassObj nm q C N bs (.ref W::SX.i8) true sn sub ab col dd k0 k1 k2 k3 k5 "ValueError.__new__")/\PySem.W.nsOkIn K N=true/\PySem.W.nsIn K N "__init__"=some none
 lw:∃ c0 dd cd sl,K.lookup W=some ⟨c0,dd,.cls cd,sl⟩/\PySem.W.nsOkIn K cd.ns=true/\PySem.W.nsIn K cd.ns "__init__"=some none
def few(i:Int):Prop:=i=40\/i=60\/i=200\/i=300
end L2
namespace Fl
open PySem L2 PyProof.Rows
instance (i:Int):Decidable (few i):=by unfold few;infer_instance
section
variable{X:Cx}{c:Ct}{E:XK}{st:Stmt}{cn:Str}{C:Addr}
end
end Fl
namespace Fl
open PySem L2 PyProof.Rows
end Fl
namespace HT
open PySem PySem.Spec PyProof.Rows L2
end HT
namespace Fl
open PySem L2 PyProof.Rows
def FnK(K:Frag)(H:Hp)(f:Addr):Prop:=PySem.W.keepIn K (.ref f)=true\/∃ oc od fd sl,H f=some (FnO f ⟨oc,od,.func fd,sl⟩)
theorem FnK.same{K:Frag}{H H':Hp}{f:Addr}(s:aR H H')(h:FnK K H f):FnK K H' f:=h.imp id fun ⟨oc,od,fd,sl,e⟩=>⟨oc,od,fd,sl,s _ _ e⟩
def l6(K:Frag)(F H:Hp):List V->List PyData->Prop
 | [],[]=>True
 | v::vs,d::ds=>a9 K F H v d/\l6 K F H vs ds
 | _,_=>False
theorem l6.ext{K:Frag}{F H F' H':Hp}(e:Ext F H F' H'):∀ {vs:List V} {ds:List PyData},l6 K F H vs ds->l6 K F' H' vs ds
 | [],[],_=>trivial
 | v::vs,d::ds,h=>⟨a9.ext e h.1,l6.ext e h.2⟩
theorem l6.len{K:Frag}{F H:Hp}:∀ {vs:List V} {ds:List PyData},l6 K F H vs ds->vs.length=ds.length
 | [],[],_=>rfl
 | v::vs,d::ds,h=>by rw[List.length_cons,List.length_cons,l6.len h.2]
theorem aP5{K:Frag}{F H:Hp}(s:aR F H):∀ {vs:List V} {ds:List PyData},l6 K F H vs ds->∃ FL,aR F FL/\aR FL H/\DatVs K FL vs ds
 | [],[],_=>⟨F,cQ F,s,.nil⟩
 | v::vs,d::ds,h=>by
  obtain ⟨FL,a,b,r⟩:=aP5 s h.2
  rcases h.1 with q|⟨p,us,xs,rfl,rfl,h1,h2⟩
  ·exact ⟨FL,a,b,.cons (q.same a) r⟩
  ·refine ⟨fun x=>if x=p then some (.lst us) else FL x,fun x o z=>?_,fun x o z=>?_,?_⟩
   ·by_cases hx:x=p
    ·subst hx
     have:=s x o z
     rw[h1] at this;cases this
     exact if_pos rfl
    ·exact (if_neg hx).trans (a x o z)
   ·by_cases hx:x=p
    ·subst hx
     have z':=(if_pos rfl).symm.trans z
     rw[h1];exact z'
    ·exact b x o ((if_neg hx).symm.trans z)
   ·have sm:aR FL (fun x=>if x=p then some (.lst us) else FL x):=fun x o z=>by
     by_cases hx:x=p
     ·subst hx
      have:=b x o z
      rw[h1] at this;cases this
      exact if_pos rfl
     ·exact (if_neg hx).trans z
    exact .cons (.lst (SqL.of (if_pos rfl)) (h2.same fun x o z=>sm x o (a x o z))) (r.same sm)
end Fl
namespace Fl
open PySem L2 PyProof.Rows
def aO2(P:Program)(w:World)(K:Frag)(mg:Str->Option Value)(base:Heap)(T:Hp)(S:ClSt)(fr:List Str)(k n:Nat)(Gm:List A->List PyData->R PyData):Prop:=
 ∀ (F0 F1:Hp) (caps:List A) (cvs:List V) (f:Addr) (cl:List (Str×Addr)) (doc pm ct:Value) (cc:Addr),aR T F0->AFs (gOf P w K mg base T) K mg F0 caps cvs->aR F0 F1->
  F1 f=some (FnO f (S.obj cl doc pm cc ct))->F1 cc=some (.cod S.qual)->CapAt F1 fr cl cvs->(∀ c∈aKI fr cl,F0 c=none)->Beh P w K mg base T f F1 k n (Gm caps)
theorem AFs.data{g:Gb}{K:Frag}{mg:Str->Option Value}{F:Hp}:∀ {vs:List V} {ds:List PyData},DatVs K F vs ds->AFs g K mg F (ds.map .d) vs
 | _,_,.nil=>trivial
 | _,_,.cons h r=>⟨h,AFs.data r⟩
end Fl
namespace Fl
open PySem L2 PyProof.Rows
def yZ(c:Ct)(F:Hp)(S:ClSt)(v:V):Prop:=∃ f cl doc pm cc ct,v=.ref f/\F f=some (FnO f (S.obj cl doc pm cc ct))/\F cc=some (.cod S.qual)/\ClOf c.cells S.scope cl
theorem yZ.same{c:Ct}{F F':Hp}{S:ClSt}{v:V}(s:aR F F'):yZ c F S v->yZ c F' S v:=by
 rintro ⟨f,cl,doc,pm,cc,ct,h1,h2,h3,h4⟩
 exact ⟨f,cl,doc,pm,cc,ct,h1,s _ _ h2,s _ _ h3,h4⟩
noncomputable def aO3:Option (Option A)->Option A
 | some (some (.d x))=>some (.d x)
 | some (some (.x e))=>some (.x e)
 | some (some (.g k n G))=>some (.g k n G)
 | _=>none
noncomputable def aFY:List Nat->Sg->Option (List A)
 | [],_=>some []
 | j::js,ρ=>match aO3 ρ[j]?,aFY js ρ with
  | some a,some as=>some (a::as)
  | _,_=>none
def aH6(X:Cx)(T:Hp)(c:Ct)(js:List Nat)(ρ:Sg)(F:Hp)(a:A)(v:V):Prop:=AF c.g c.K c.mg F a v \/
 ∃ S fr sl k n Gm caps,a=.g k n (Gm caps)/\yZ c F S v/\aO2 X.prog X.w X.K X.mg X.base T S fr k n Gm/\(∀ y,(y,NameKind.free)∈S.scope.names->y∈fr)/\(∀ y∈fr,(y,NameKind.free)∈S.scope.names)/\sl.map (fun j=>X.N[j]?)=fr.map some/\(∀ j∈sl,j∈js)/\aFY sl ρ=some caps
theorem aH6.same{X:Cx}{T:Hp}{c:Ct}{js:List Nat}{ρ:Sg}{F F':Hp}{a:A}{v:V}(s:aR F F')(h:aH6 X T c js ρ F a v):aH6 X T c js ρ F' a v:=by
 rcases h with h|⟨S,fr,sl,k,n,Gm,caps,h1,h2,h3⟩
 · exact .inl (AF.same s h)
 · exact .inr ⟨S, fr, sl, k, n, Gm, caps, h1, h2.same s, h3⟩
end Fl
namespace Fl
open PySem L2 PyProof.Rows
section
variable{P:Program}{w:World}{K:Frag}{mg:Str->Option Value}{base:Heap}{T:Hp}
structure DefAtT(K:Frag)(mg:Str->Option Value)(base:Heap)(T:Hp)(qs:List (Pos×Str))(x:Str)(st:Stmt)(ps:List Str):Prop where
 ex:∃ f oc od kV doc pm an c0 ct osl P0,K.lookup f=some ⟨oc,od,.func (PySem.W.fnOf x x (dD st) (cC st) (aM st) .none kV doc pm an (.ref c0) ct),osl⟩/\PySem.W.codeIn K (.ref c0) x=true/\PySem.W.keepIn K (.ref f)=true /\
  dC K (PySem.W.fnOf x x (dD st) (cC st) (aM st) .none kV doc pm an (.ref c0) ct) ps []/\mg x=some (.ref f)/\Tb mg base c0 P0/\T P0=some (.tbl qs)
end
end Fl
namespace Fl
open PySem L2 PyProof.Rows
end Fl
namespace Zp
open PySem
section
variable{prog:Program}{w:World}{A:Around}{E:Value->Shared->Prop}{s:Shared}
theorem sE{it t:Addr}{i:Nat}{items}{x:Value}{Q:Value->Shared->Prop}(hit:s.heap.IsTupleIter it t i)
  (ht:s.heap.IsTuple t items) (hx:items[i]? = some x) (hQ:∀ h',h'.IsTupleIter it t (i+1)->Heap.SameBut it s.heap h'->Q x {s with heap:=h'}) :
  wpAny (model prog w) A (Builtin.SmallTypes.nextOf (.ref it)) Q E s:=by
 obtain ⟨o,ho,hc,hd⟩:=id hit
 obtain ⟨ol,hol,_,nl,hdl⟩:=ht
 unfold Builtin.SmallTypes.nextOf
 refine wpAny_bind (wpAny_callSpecial?_slot (name:=Str.ofString "__next__") hit.typeIs F.slot_tuple_iterator_next
  (wpAny_call_entry F.slot_tuple_iterator_next hit.typeIs F.entry_tuple_iterator_next ?_ (F.args_tuple_iterator_next_1 _)))
 show wpAny _ _ (field (.ref it) 0 >>= _) _ _ s
 refine wpAny_bind (wpAny_field ho hd (x:=.ref t) rfl ?_)
 show wpAny _ _ (if (Value.ref t == Value.none)=true then _ else _) _ _ s
 rw[if_neg (show ¬ ((Value.ref t == Value.none)=true) from Bool.false_ne_true)]
 show wpAny _ _ (field (.ref it) 1 >>= _) _ _ s
 refine wpAny_bind (wpAny_field ho hd (x:=.int i 0) rfl ?_)
 show wpAny _ _ (seqItems? (.ref t) >>= _) _ _ s
 refine wpAny_bind (wpAny_seqItems hol hdl ?_)
 simp only[Int.toNat_natCast,hx]
 refine wpAny_bind (wpAny_setField ho hd (by simp) (wpAny_pure ⟨x,rfl,wpAny_pure (hQ _ ?_ (Heap.SameBut.update ..))⟩))
 exact ⟨_,Heap.get?_update_self _ ho (Obj.isFreed_of_fields (Obj.data_mapFields hd _)),(Obj.cls_mapFields ..).trans hc,by
  rw[Obj.data_mapFields hd];simp[rawInt]⟩
theorem tL{it t:Addr}{i:Nat}{items}{Q:Value->Shared->Prop}(hh:A.handled=none)
  (hit:s.heap.IsTupleIter it t i) (ht:s.heap.IsTuple t items) (hx:items[i]? = none)
  (hE:∀ h' e,Heap.ExtBut it s.heap h'->(∃ o,h'.get? e=some o/\o.cls=.type "StopIteration")->E (.ref e) {s with heap:=h'}) :
  wpAny (model prog w) A (Builtin.SmallTypes.nextOf (.ref it)) Q E s:=by
 obtain ⟨o,ho,hc,hd⟩:=id hit
 obtain ⟨ol,hol,_,nl,hdl⟩:=ht
 unfold Builtin.SmallTypes.nextOf
 refine wpAny_bind (wpAny_callSpecial?_slot (name:=Str.ofString "__next__") hit.typeIs F.slot_tuple_iterator_next
  (wpAny_call_entry F.slot_tuple_iterator_next hit.typeIs F.entry_tuple_iterator_next ?_ (F.args_tuple_iterator_next_1 _)))
 show wpAny _ _ (field (.ref it) 0 >>= _) _ _ s
 refine wpAny_bind (wpAny_field ho hd (x:=.ref t) rfl ?_)
 show wpAny _ _ (if (Value.ref t == Value.none)=true then _ else _) _ _ s
 rw[if_neg (show ¬ ((Value.ref t == Value.none)=true) from Bool.false_ne_true)]
 show wpAny _ _ (field (.ref it) 1 >>= _) _ _ s
 refine wpAny_bind (wpAny_field ho hd (x:=.int i 0) rfl ?_)
 show wpAny _ _ (seqItems? (.ref t) >>= _) _ _ s
 refine wpAny_bind (wpAny_seqItems hol hdl ?_)
 simp only[Int.toNat_natCast,hx]
 refine wpAny_bind (wpAny_rule (wpAny_bind (wpAny_setField ho hd (by simp) ?_)))
 show wpAny _ _ (newExc (.type "StopIteration") [] >>= _) _ _ _
 refine wpAny_bind ?_
 simp only[newExc,newTuple]
 refine wpAny_bind (wpAny_newObj_type ?_ (by size_fits))
 refine wpAny_bind (m:=firstArgMember _ _) (wpAny_of_eq (a:=Value.none) (by first|rfl|(simp only[firstArgMember];rfl)) ?_)
 refine wpAny_newObj_type ?_ (by size_fits)
 simp only[raiseNew]
 refine wpAny_bind (wpAny_handled ?_)
 first|rw[show A.in1.handled=none from hh]|rw[hh]
 refine wpAny_bind (wpAny_pure (wpAny_throw ?_))
 exact hE _ _ (((Heap.SameBut.update ..).extBut.push _).push _) ⟨_,Heap.get?_push_size _ rfl,rfl⟩
end
theorem aBU{prog:Program}{w:World}{A:Around}(hh:A.handled=none)(it l:Addr)(hne:l≠it)(items:Array Value) :
  Draws prog w A it [it,l] items.size (fun i v=>items[i]? = some v) (fun i h=>h.IsTupleIter it l i/\h.IsTuple l items) where
 live:=fun _ _ st=>let ⟨o,ho,_⟩:=st.1;⟨o,ho⟩
 frame:=fun _ _ _ st hk=>⟨let ⟨o,ho,r⟩:=st.1;⟨o,hk it (by simp) o ho,r⟩,let ⟨o,ho,r⟩:=st.2;⟨o,hk l (by simp) o ho,r⟩⟩
 item:=fun i s Q E hi st hQ=>by
  refine sE st.1 st.2 (x:=items[i]) (by simp[hi]) fun h' hit' hs'=>?_
  exact hQ _ h' s.toks (by simp[hi]) ⟨hit',st.2.extBut hs'.extBut hne⟩ hs'
 done:=fun s Q E st hE=>tL hh st.1 st.2 (by simp) hE
structure Apart(z TI TO i1 i2:Addr)(f1 f2:List Addr):Prop where
 TIz:TI≠z
 TOz:TO≠z
 i1z:i1≠z
 i2z:i2≠z
 TITO:TI≠TO
 TIi1:TI≠i1
 TIi2:TI≠i2
 TOi1:TO≠i1
 TOi2:TO≠i2
 i12:i1≠i2
 z1:z∉f1
 z2:z∉f2
 t1:TO∉f1
 t2:TO∉f2
 i1f2:i1∉f2
 i2f1:i2∉f1
section
variable{prog:Program}{w:World}{A:Around}{E:Value->Shared->Prop}{s:Shared}
abbrev mR(h:Heap)(z TI TO:Addr)(f0 f1:Value):Prop:=h.get? z=some {cls:=.type "zip",dict:=none,data:=.fields #[f0,f1,.bool false,.ref TI,.ref TO],slots:=#[]}
theorem aH7{M:Model}{A:Around}{E:Value->Shared->Prop}{s:Shared}{a:Addr}{Q:Option Obj->Shared->Prop}(h:Q (s.heap.get? a) s):wpAny M A (loadIfAlive a) Q E s:=fun Γ p _=>by
 unfold loadIfAlive
 rw[Sem.wp_loadIfAlive]
 exact h
theorem xP{z TI TO:Addr}{f0:Value}{bb:Bool}{Q:Bool->Shared->Prop}(hz:mR s.heap z TI TO f0 (.bool bb))(hf:f0=.none\/∃ T:Addr,f0=rawInt T/\s.heap.get? T=none)(h:Q true s):wpAny (model prog w) A (Builtin.SmallTypes.ownedTupleIsFree (.ref z)) Q E s:=by
 unfold Builtin.SmallTypes.ownedTupleIsFree
 refine wpAny_bind (wpAny_field hz rfl (x:=f0) rfl ?_)
 rcases hf with rfl|⟨T,rfl,hT⟩
 ·exact wpAny_pure h
 ·show wpAny _ _ (loadIfAlive ((T:Int)).toNat >>= _) _ _ s
  refine wpAny_bind (aH7 ?_)
  rw[show ((T:Int)).toNat=T by omega,hT]
  exact wpAny_pure h
theorem aFZ{z TI TO i1 i2:Addr}{f1 f2:List Addr}{n1 n2 i:Nat}{P1 P2:Nat->Value->Prop}{S1 S2:Nat->Heap->Prop}{a b f0:Value}{bb:Bool}{Q:Value->Shared->Prop}(D:Apart z TI TO i1 i2 f1 f2)
  (D1:Draws prog w A i1 f1 n1 P1 S1) (D2:Draws prog w A i2 f2 n2 P2 S2)
  (hz:mR s.heap z TI TO f0 (.bool bb)) (hfr:f0=.none\/∃ T:Addr,f0=rawInt T/\s.heap.get? T=none) (hTI:IsPair s.heap TI (.ref i1) (.ref i2)) (hTO:IsPair s.heap TO a b) (h1:S1 i s.heap) (h2:S2 i s.heap) (l1:i < n1) (l2:i < n2)
  (hQ:∀ x y h' tk,P1 i x->P2 i y->IsZip h' z TI TO (rawInt s.heap.objs.size)->IsPair h' TO x y->S1 (i+1) h'->S2 (i+1) h'->IsPair h' s.heap.objs.size x y->h'.objs.size=s.heap.objs.size+1->
   (∀ c o,c≠z->c≠TO->c≠i1->c≠i2->s.heap.get? c=some o->h'.get? c=some o)->Q (.ref s.heap.objs.size) {s with heap:=h',toks:=tk}) :
  wpAny (model prog w) A (Builtin.«zip.__next__» ⟨[.ref z],[]⟩) (fun fin s'=>∃ v,fin=.done (.ret v)/\Q v s') E s:=by
 show wpAny _ _ (field (.ref z) 2 >>= _) _ _ _
 refine wpAny_bind (wpAny_field hz rfl (x:=.bool false) rfl ?_)
 show wpAny _ _ (field (.ref z) 3 >>= _) _ _ _
 refine wpAny_bind (wpAny_field hz rfl (x:=.ref TI) rfl ?_)
 refine wpAny_bind (wpAny_seqItems hTI rfl ?_)
 show wpAny _ _ (Builtin.SmallTypes.ownedTupleIsFree (.ref z) >>= _) _ _ _
 refine wpAny_bind (xP hz hfr ?_)
 simp only[if_true]
 refine wpAny_bind (wpAny_rule ?_)
 refine wpAny_bind (wpAny_field hz rfl (x:=.ref TO) rfl ?_)
 refine wpAny_bind (wpAny_setField_rec hz (by simp) fun h₁ hz₁ hs₁=>?_)
 replace hz₁:mR h₁ z TI TO .ellipsis (.bool bb):=hz₁
 refine wpAny_bind ?_
 simp only[List.zipIdx_cons,List.zipIdx_nil,List.forIn_cons,List.forIn_nil]
 have fr:∀ {f:List Addr} {c:Addr} {g g':Heap},Heap.SameBut c g g'->c∉f->∀ b∈f,∀ o,g.get? b=some o->g'.get? b=some o:=fun hs hc b hb o e=>hs.extBut _ _ (fun z=>hc (z▸hb)) e
 refine wpAny_bind (wpAny_bind (wpAny_onRaise ?_))
 show wpAny _ _ (Builtin.SmallTypes.nextOf (.ref i1) >>= _) _ _ _
 refine wpAny_bind (D1.item i {s with heap:=h₁} _ _ l1 (D1.frame _ _ _ h1 (fr hs₁ D.z1)) fun x h₂ tk1 px h1₂ hs₂=>wpAny_pure ?_)
 have hTO₂:IsPair h₂ TO a b:=hs₂.extBut _ _ D.TOi1 (hs₁.extBut _ _ D.TOz hTO)
 refine wpAny_bind (wpAny_seqItems hTO₂ rfl ?_)
 refine wpAny_bind (wpAny_updateSeq_pair hTO₂ fun h₃ hTO₃ hs₃=>?_)
 replace hTO₃:IsPair h₃ TO x b:=hTO₃
 refine wpAny_bind (wpAny_letGo (wpAny_pure ?_))
 refine wpAny_bind (wpAny_bind (wpAny_onRaise ?_))
 show wpAny _ _ (Builtin.SmallTypes.nextOf (.ref i2) >>= _) _ _ _
 refine wpAny_bind (D2.item i {s with heap:=h₃,toks:=tk1} _ _ l2 (D2.frame _ _ _ (D2.frame _ _ _ (D2.frame _ _ _ h2 (fr hs₁ D.z2)) (fr hs₂ D.i1f2)) (fr hs₃ D.t2)) fun y h₄ tk2 py h2₄ hs₄=>wpAny_pure ?_)
 have hs₄:Heap.SameBut i2 h₃ h₄:=hs₄
 have hs₂:Heap.SameBut i1 h₁ h₂:=hs₂
 have hTO₄:IsPair h₄ TO x b:=hs₄.extBut _ _ D.TOi2 hTO₃
 refine wpAny_bind (wpAny_seqItems hTO₄ rfl ?_)
 refine wpAny_bind (wpAny_updateSeq_pair hTO₄ fun h₅ hTO₅ hs₅=>?_)
 replace hTO₅:IsPair h₅ TO x y:=hTO₅
 refine wpAny_bind (wpAny_letGo (wpAny_pure (wpAny_pure ?_)))
 refine wpAny_bind (wpAny_seqItems hTO₅ rfl ?_)
 refine wpAny_bind (wpAny_newTuple ?_)
 have hsz:h₅.objs.size=s.heap.objs.size:=by rw[hs₅.1];show h₄.objs.size=_;rw[hs₄.1,hs₃.1];show h₂.objs.size=_;rw[hs₂.1,hs₁.1]
 have hs₃:Heap.SameBut TO h₂ h₃:=hs₃
 have hs₅:Heap.SameBut TO h₄ h₅:=hs₅
 have hz₅:mR h₅ z TI TO .ellipsis (.bool bb):=hs₅.extBut _ _ D.TOz.symm (hs₄.extBut _ _ D.i2z.symm (hs₃.extBut _ _ D.TOz.symm (hs₂.extBut _ _ D.i1z.symm hz₁)))
 have hk₅:∀ c o,c≠z->c≠TO->c≠i1->c≠i2->s.heap.get? c=some o->h₅.get? c=some o:=fun c o c1 c2 c3 c4 e=>
  hs₅.extBut _ _ c2 (hs₄.extBut _ _ c4 (hs₃.extBut _ _ c2 (hs₂.extBut _ _ c3 (hs₁.extBut _ _ c1 e))))
 have h1₅:S1 (i+1) h₅:=D1.frame _ _ _ (D1.frame _ _ _ (D1.frame _ _ _ h1₂ (fr hs₃ D.t1)) (fr hs₄ D.i2f1)) (fr hs₅ D.t1)
 have h2₅:S2 (i+1) h₅:=D2.frame _ _ _ h2₄ (fr hs₅ D.t2)
 have hzlt:z < h₅.objs.size:=Heap.lt_size hz₅
 show wpAny _ _ (Builtin.SmallTypes.ownedTupleHandOut (.ref z) (.ref h₅.objs.size) >>= _) _ _ _
 refine wpAny_bind ?_
 unfold Builtin.SmallTypes.ownedTupleHandOut
 have hz₆:mR (h₅.push {cls:=.type "tuple",data:=.seq #[x,y]}) z TI TO .ellipsis (.bool bb):=Heap.get?_push_of_some _ hz₅
 refine wpAny_bind (wpAny_setField_rec hz₆ (by simp) fun h₇ hz₇ hs₇=>?_)
 replace hz₇:mR h₇ z TI TO (rawInt h₅.objs.size) (.bool bb):=hz₇
 refine wpAny_setField_rec hz₇ (by simp) fun h₈ hz₈ hs₈=>?_
 replace hz₈:IsZip h₈ z TI TO (rawInt h₅.objs.size):=hz₈
 have up:∀ c o,c≠z->h₅.get? c=some o->h₈.get? c=some o:=fun c o c1 e=>hs₈.extBut _ _ c1 (hs₇.extBut _ _ c1 (Heap.get?_push_of_some _ e))
 have hT₈:IsPair h₈ h₅.objs.size x y:=hs₈.extBut _ _ (Nat.ne_of_gt hzlt) (hs₇.extBut _ _ (Nat.ne_of_gt hzlt) (Heap.get?_push_size _ rfl))
 have hz8:h₈.objs.size=h₅.objs.size+1:=by rw[hs₈.1,hs₇.1,Heap.size_push]
 rw[hsz] at hz₈ hT₈ hz8
 refine wpAny_pure ⟨_,rfl,?_⟩
 show Q (.ref h₅.objs.size) _
 rw[hsz]
 exact hQ x y h₈ tk2 px py hz₈ (up _ _ D.TOz hTO₅) (D1.frame _ _ _ h1₅ fun b hb o e=>up b o (fun q=>D.z1 (q▸hb)) e) (D2.frame _ _ _ h2₅ fun b hb o e=>up b o (fun q=>D.z2 (q▸hb)) e) hT₈ hz8 fun c o c1 c2 c3 c4 e=>up c o c1 (hk₅ c o c1 c2 c3 c4 e)
theorem aH8{z TI TO i1 i2:Addr}{f1 f2:List Addr}{n1 n2 i:Nat}{P1 P2:Nat->Value->Prop}{S1 S2:Nat->Heap->Prop}{a b f0:Value}{bb:Bool}{Q:Fin->Shared->Prop}(D:Apart z TI TO i1 i2 f1 f2)
  (D1:Draws prog w A i1 f1 n1 P1 S1) (D2:Draws prog w A i2 f2 n2 P2 S2)
  (hz:mR s.heap z TI TO f0 (.bool bb)) (hfr:f0=.none\/∃ T:Addr,f0=rawInt T/\s.heap.get? T=none) (hTI:IsPair s.heap TI (.ref i1) (.ref i2)) (hTO:IsPair s.heap TO a b) (h1:S1 i s.heap) (h2:S2 i s.heap) (hend:i=n1\/(i < n1/\i=n2))
  (hE:∀ h' tk e,(∀ c o,c≠z->c≠TO->c≠i1->c≠i2->s.heap.get? c=some o->h'.get? c=some o)->(∃ o,h'.get? e=some o/\o.cls=.type "StopIteration")->E (.ref e) {s with heap:=h',toks:=tk}) :
  wpAny (model prog w) A (Builtin.«zip.__next__» ⟨[.ref z],[]⟩) Q E s:=by
 show wpAny _ _ (field (.ref z) 2 >>= _) _ _ _
 refine wpAny_bind (wpAny_field hz rfl (x:=.bool false) rfl ?_)
 show wpAny _ _ (field (.ref z) 3 >>= _) _ _ _
 refine wpAny_bind (wpAny_field hz rfl (x:=.ref TI) rfl ?_)
 refine wpAny_bind (wpAny_seqItems hTI rfl ?_)
 show wpAny _ _ (Builtin.SmallTypes.ownedTupleIsFree (.ref z) >>= _) _ _ _
 refine wpAny_bind (xP hz hfr ?_)
 simp only[if_true]
 refine wpAny_bind (wpAny_rule ?_)
 refine wpAny_bind (wpAny_field hz rfl (x:=.ref TO) rfl ?_)
 refine wpAny_bind (wpAny_setField_rec hz (by simp) fun h₁ hz₁ hs₁=>?_)
 replace hz₁:mR h₁ z TI TO .ellipsis (.bool bb):=hz₁
 refine wpAny_bind ?_
 simp only[List.zipIdx_cons,List.zipIdx_nil,List.forIn_cons,List.forIn_nil]
 have fr:∀ {f:List Addr} {c:Addr} {g g':Heap},Heap.SameBut c g g'->c∉f->∀ b∈f,∀ o,g.get? b=some o->g'.get? b=some o:=fun hs hc b hb o e=>hs.extBut _ _ (fun z=>hc (z▸hb)) e
 refine wpAny_bind (wpAny_bind (wpAny_onRaise ?_))
 show wpAny _ _ (Builtin.SmallTypes.nextOf (.ref i1) >>= _) _ _ _
 rcases hend with rfl|⟨l1,rfl⟩
 ·refine wpAny_bind (D1.done {s with heap:=h₁} _ _ (D1.frame _ _ _ h1 (fr hs₁ D.z1)) fun h₂ e hs₂ he=>?_)
  obtain ⟨oe,hoe,hce⟩:=he
  have hz₂:mR h₂ z TI TO .ellipsis (.bool bb):=hs₂ _ _ D.i1z.symm hz₁
  have hez:e≠z:=fun x=>by subst x;rw[hz₂] at hoe;cases hoe;simp at hce
  refine wpAny_setField_rec hz₂ (by simp) fun h₃ _ hs₃=>hE h₃ s.toks e (fun c o c1 _ c3 _ x=>hs₃.extBut _ _ c1 (hs₂ _ _ c3 (hs₁.extBut _ _ c1 x))) ⟨oe,hs₃.extBut _ _ hez hoe,hce⟩
 ·refine wpAny_bind (D1.item i {s with heap:=h₁} _ _ l1 (D1.frame _ _ _ h1 (fr hs₁ D.z1)) fun x h₂ tk1 px h1₂ hs₂=>wpAny_pure ?_)
  have hs₂:Heap.SameBut i1 h₁ h₂:=hs₂
  have hTO₂:IsPair h₂ TO a b:=hs₂.extBut _ _ D.TOi1 (hs₁.extBut _ _ D.TOz hTO)
  refine wpAny_bind (wpAny_seqItems hTO₂ rfl ?_)
  refine wpAny_bind (wpAny_updateSeq_pair hTO₂ fun h₃ hTO₃ hs₃=>?_)
  have hs₃:Heap.SameBut TO h₂ h₃:=hs₃
  refine wpAny_bind (wpAny_letGo (wpAny_pure ?_))
  refine wpAny_bind (wpAny_bind (wpAny_onRaise ?_))
  show wpAny _ _ (Builtin.SmallTypes.nextOf (.ref i2) >>= _) _ _ _
  refine wpAny_bind (D2.done {s with heap:=h₃,toks:=tk1} _ _ (D2.frame _ _ _ (D2.frame _ _ _ (D2.frame _ _ _ h2 (fr hs₁ D.z2)) (fr hs₂ D.i1f2)) (fr hs₃ D.t2)) fun h₄ e hs₄ he=>?_)
  have hs₄:Heap.ExtBut i2 h₃ h₄:=hs₄
  obtain ⟨oe,hoe,hce⟩:=he
  have hz₄:mR h₄ z TI TO .ellipsis (.bool bb):=hs₄ _ _ D.i2z.symm (hs₃.extBut _ _ D.TOz.symm (hs₂.extBut _ _ D.i1z.symm hz₁))
  have hez:e≠z:=fun x=>by subst x;rw[hz₄] at hoe;cases hoe;simp at hce
  refine wpAny_setField_rec hz₄ (by simp) fun h₅ _ hs₅=>hE h₅ tk1 e (fun c o c1 c2 c3 c4 x=>hs₅.extBut _ _ c1 (hs₄ _ _ c4 (hs₃.extBut _ _ c2 (hs₂.extBut _ _ c3 (hs₁.extBut _ _ c1 x))))) ⟨oe,hs₅.extBut _ _ hez hoe,hce⟩
theorem aH9{z TI TO i1 i2:Addr}{f1 f2:List Addr}{n1 n2 i:Nat}{P1 P2:Nat->Value->Prop}{S1 S2:Nat->Heap->Prop}{a b:Value}{Q:Value->Shared->Prop}(D:Apart z TI TO i1 i2 f1 f2)
 (D1:Draws prog w A i1 f1 n1 P1 S1) (D2:Draws prog w A i2 f2 n2 P2 S2)
 (hz:IsZip s.heap z TI TO .none) (hTI:IsPair s.heap TI (.ref i1) (.ref i2)) (hTO:IsPair s.heap TO a b) (h1:S1 i s.heap) (h2:S2 i s.heap) (l1:i < n1) (l2:i < n2)
 (hQ:∀ x y h' tk,P1 i x->P2 i y->IsZip h' z TI TO (rawInt s.heap.objs.size)->IsPair h' TO x y->S1 (i+1) h'->S2 (i+1) h'->IsPair h' s.heap.objs.size x y->h'.objs.size=s.heap.objs.size+1->
  (∀ c o,c≠z->c≠TO->c≠i1->c≠i2->s.heap.get? c=some o->h'.get? c=some o)->Q (.ref s.heap.objs.size) {s with heap:=h',toks:=tk}) :
 wpAny (model prog w) A (Builtin.«zip.__next__» ⟨[.ref z],[]⟩) (fun fin s'=>∃ v,fin=.done (.ret v)/\Q v s') E s:=aFZ D D1 D2 hz (.inl rfl) hTI hTO h1 h2 l1 l2 hQ
theorem aKV{z TI TO i1 i2:Addr}{f1 f2:List Addr}{n1 n2 i:Nat}{P1 P2:Nat->Value->Prop}{S1 S2:Nat->Heap->Prop}{a b:Value}{Q:Fin->Shared->Prop}(D:Apart z TI TO i1 i2 f1 f2)
 (D1:Draws prog w A i1 f1 n1 P1 S1) (D2:Draws prog w A i2 f2 n2 P2 S2)
 (hz:IsZip s.heap z TI TO .none) (hTI:IsPair s.heap TI (.ref i1) (.ref i2)) (hTO:IsPair s.heap TO a b) (h1:S1 i s.heap) (h2:S2 i s.heap) (hend:i=n1\/(i < n1/\i=n2))
 (hE:∀ h' tk e,(∀ c o,c≠z->c≠TO->c≠i1->c≠i2->s.heap.get? c=some o->h'.get? c=some o)->(∃ o,h'.get? e=some o/\o.cls=.type "StopIteration")->E (.ref e) {s with heap:=h',toks:=tk}) :
 wpAny (model prog w) A (Builtin.«zip.__next__» ⟨[.ref z],[]⟩) Q E s:=aH8 D D1 D2 hz (.inl rfl) hTI hTO h1 h2 hend hE
theorem aF0{z TI TO i1 i2:Addr}{f1 f2:List Addr}{n1 n2 i:Nat}{P1 P2:Nat->Value->Prop}{S1 S2:Nat->Heap->Prop}{a b:Value}{Q:Option Value->Shared->Prop}(D:Apart z TI TO i1 i2 f1 f2)
  (D1:Draws prog w A.in1 i1 f1 n1 P1 S1) (D2:Draws prog w A.in1 i2 f2 n2 P2 S2)
  (hz:IsZip s.heap z TI TO .none) (hTI:IsPair s.heap TI (.ref i1) (.ref i2)) (hTO:IsPair s.heap TO a b) (h1:S1 i s.heap) (h2:S2 i s.heap) (l1:i < n1) (l2:i < n2)
  (hQ:∀ x y h' tk,P1 i x->P2 i y->IsZip h' z TI TO (rawInt s.heap.objs.size)->IsPair h' TO x y->S1 (i+1) h'->S2 (i+1) h'->IsPair h' s.heap.objs.size x y->h'.objs.size=s.heap.objs.size+1->
   (∀ c o,c≠z->c≠TO->c≠i1->c≠i2->s.heap.get? c=some o->h'.get? c=some o)->Q (some (.ref s.heap.objs.size)) {s with heap:=h',toks:=tk}) :
  wpAny (model prog w) A (pyNext (.ref z)) Q E s:=by
 have hT:s.TypeIs (.ref z) "zip":=⟨_,hz,rfl⟩
 unfold pyNext
 exact wpAny_bind (wpAny_attempt (wpAny_callSpecial?_slot (name:=Str.ofString "__next__") hT F.slot_zip_next
  (wpAny_call_entry F.slot_zip_next hT F.entry_zip_next
   (aH9 D D1 D2 hz hTI hTO h1 h2 l1 l2 fun x y h' tk p1 p2 a1 a2 a3 a4 a5 a6 a7=>wpAny_pure (hQ x y h' tk p1 p2 a1 a2 a3 a4 a5 a6 a7)) (F.args_zip_next_1 _))))
theorem aIA{z TI TO i1 i2:Addr}{f1 f2:List Addr}{n1 n2 i:Nat}{P1 P2:Nat->Value->Prop}{S1 S2:Nat->Heap->Prop}{a b:Value}{Q:Option Value->Shared->Prop}(D:Apart z TI TO i1 i2 f1 f2)
  (D1:Draws prog w A.in1 i1 f1 n1 P1 S1) (D2:Draws prog w A.in1 i2 f2 n2 P2 S2)
  (hz:IsZip s.heap z TI TO .none) (hTI:IsPair s.heap TI (.ref i1) (.ref i2)) (hTO:IsPair s.heap TO a b) (h1:S1 i s.heap) (h2:S2 i s.heap) (hend:i=n1\/(i < n1/\i=n2))
  (hQ:∀ h' tk,(∀ c o,c≠z->c≠TO->c≠i1->c≠i2->s.heap.get? c=some o->h'.get? c=some o)->Q none {s with heap:=h',toks:=tk}):wpAny (model prog w) A (pyNext (.ref z)) Q E s:=by
 have hT:s.TypeIs (.ref z) "zip":=⟨_,hz,rfl⟩
 unfold pyNext
 refine wpAny_bind (wpAny_attempt (wpAny_callSpecial?_slot (name:=Str.ofString "__next__") hT F.slot_zip_next
  (wpAny_call_entry F.slot_zip_next hT F.entry_zip_next (aKV D D1 D2 hz hTI hTO h1 h2 hend fun h' tk e hk he=>?_) (F.args_zip_next_1 _))))
 obtain ⟨o,ho,hc⟩:=he
 refine wpAny_bind (wpAny_isInstance (T:="StopIteration") (b:=true) ⟨o,ho,hc⟩ isSubtype_stop ?_)
 exact wpAny_pure (hQ _ _ hk)
end
def qQ(v:Value)(o:Obj)(h:Heap):Prop:=∀ (prog:Program) (w:World) (A:Around) (E:Value->Shared->Prop) (s:Shared) (Q:Value->Shared->Prop),s.heap=h->Q (.ref h.objs.size) {s with heap:=h.push o}->wpAny (model prog w) A (pyIter v) Q E s
noncomputable abbrev H2(h:Heap)(o1 o2:Obj):Heap:=(h.push o1).push o2
noncomputable abbrev H3(h:Heap)(o1 o2:Obj):Heap:=(H2 h o1 o2).push {cls:=.type "tuple",data:=.seq #[.ref h.objs.size,.ref (h.push o1).objs.size]}
noncomputable abbrev H4(h:Heap)(o1 o2:Obj):Heap:=(H3 h o1 o2).push {cls:=.type "tuple",data:=.seq #[.none,.none]}
noncomputable abbrev H5(h:Heap)(o1 o2:Obj):Heap:=(H4 h o1 o2).push {cls:=.type "zip",data:=.fields #[.none,.bool false,.bool false,.ref (H2 h o1 o2).objs.size,.ref (H3 h o1 o2).objs.size]}
theorem aF1(v1 v2:Value)(o1 o2:Obj) :
  Meets (Builtin.«zip.__new__» ⟨[.type "zip",v1,v2],[]⟩) (fun _ R s=>qQ v1 o1 s.heap/\qQ v2 o2 (s.heap.push o1) /\
   R (.ok (.ret (.ref (H4 s.heap o1 o2).objs.size))) {s with heap:=H5 s.heap o1 o2}):=
 .of_wp fun prog w A R s h=>by
  obtain ⟨hp,g,d,tk,os⟩:=s;obtain ⟨hl1,hl2,h⟩:=h
  have hsub:=sub_zip
  have p1:∀ {A:Around} {E:Value->Shared->Prop} {Q:Value->Shared->Prop},Q (.ref hp.objs.size) ⟨hp.push o1,g,d,tk,os⟩->wpAny (model prog w) A (pyIter v1) Q E ⟨hp,g,d,tk,os⟩:=fun hq=>hl1 prog w _ _ ⟨hp,g,d,tk,os⟩ _ rfl hq
  have p2:∀ {A:Around} {E:Value->Shared->Prop} {Q:Value->Shared->Prop},Q (.ref (hp.push o1).objs.size) ⟨(hp.push o1).push o2,g,d,tk,os⟩->wpAny (model prog w) A (pyIter v2) Q E ⟨hp.push o1,g,d,tk,os⟩:=fun hq=>hl2 prog w _ _ ⟨hp.push o1,g,d,tk,os⟩ _ rfl hq
  wp_walk using p1,p2
  exact ⟨_,rfl,h⟩
end Zp
namespace Zp
open PySem
section
variable{prog:Program}{w:World}{A:Around}{E:Value->Shared->Prop}{s:Shared}
theorem aIB{v1 v2:Value}{o1 o2:Obj}{Q:Value->Shared->Prop}(h1:qQ v1 o1 s.heap)(h2:qQ v2 o2 (s.heap.push o1))(f1:o1.isFreed=false)(f2:o2.isFreed=false)
  (h:∀ h',IsZip h' (s.heap.objs.size+4) (s.heap.objs.size+2) (s.heap.objs.size+3) .none->IsPair h' (s.heap.objs.size+2) (.ref s.heap.objs.size) (.ref (s.heap.objs.size+1))->
   IsPair h' (s.heap.objs.size+3) .none .none->h'.get? s.heap.objs.size=some o1->h'.get? (s.heap.objs.size+1)=some o2->h'.objs.size=s.heap.objs.size+5->
   (∀ c o,s.heap.get? c=some o->h'.get? c=some o)->Q (.ref (s.heap.objs.size+4)) {s with heap:=h'}) :
  wpAny (model prog w) A (call (.type "zip") [v1,v2]) Q E s:=by
 refine callType_new F.called_zip (by decide) (F.typeCall_zip_2 _ _) (F.newCall_zip_2 _ _) (fun obj=>F.args_object_init_3 obj _ _) F.entry_zip_new
  (aF1 v1 v2 o1 o2) ⟨h1,h2,?_⟩
 have z1:(s.heap.push o1).objs.size=s.heap.objs.size+1:=Heap.size_push ..
 have z2:(H2 s.heap o1 o2).objs.size=s.heap.objs.size+2:=by rw[Heap.size_push,z1]
 have z3:(H3 s.heap o1 o2).objs.size=s.heap.objs.size+3:=by rw[Heap.size_push,z2]
 have z4:(H4 s.heap o1 o2).objs.size=s.heap.objs.size+4:=by rw[Heap.size_push,z3]
 have z5:(H5 s.heap o1 o2).objs.size=s.heap.objs.size+5:=by rw[Heap.size_push,z4]
 have g5:(H5 s.heap o1 o2).get? (H4 s.heap o1 o2).objs.size=some _:=Heap.get?_push_size _ rfl
 have g4:(H5 s.heap o1 o2).get? (H3 s.heap o1 o2).objs.size=some _:=Heap.get?_push_of_some _ (Heap.get?_push_size _ rfl)
 have g3:(H5 s.heap o1 o2).get? (H2 s.heap o1 o2).objs.size=some _:=Heap.get?_push_of_some _ (Heap.get?_push_of_some _ (Heap.get?_push_size _ rfl))
 have g2:(H5 s.heap o1 o2).get? (s.heap.push o1).objs.size=some o2:=Heap.get?_push_of_some _ (Heap.get?_push_of_some _ (Heap.get?_push_of_some _ (Heap.get?_push_size _ f2)))
 have g1:(H5 s.heap o1 o2).get? s.heap.objs.size=some o1:=Heap.get?_push_of_some _ (Heap.get?_push_of_some _ (Heap.get?_push_of_some _ (Heap.get?_push_of_some _ (Heap.get?_push_size _ f1))))
 show _/\_
 rw[z2,z3,z4] at g5
 rw[z1,z2] at g3
 rw[z3] at g4
 rw[z1] at g2
 rw[z4]
 exact ⟨⟨_,g5,rfl⟩,h _ g5 g3 g4 g1 g2 z5 fun c o x=>
  Heap.get?_push_of_some _ (Heap.get?_push_of_some _ (Heap.get?_push_of_some _ (Heap.get?_push_of_some _ (Heap.get?_push_of_some _ x))))⟩
end
end Zp
namespace L2
open PySem PySem.Spec PyProof.Rows
abbrev Col:=Hp->List V->Prop
structure ColOk(P:Program)(w:World)(K:Frag)(C:Col)(it:Addr)(tn:Nat->Heap->Prop):Prop where
 obj:∀ i h,tn i h->∃ o,h.get? it=some o/\∀ v,o.data≠.cell v
 keep:∀ i h h',tn i h->(∀ o,h.get? it=some o->h'.get? it=some o)->tn i h'
 one:∀ (X:Cx),X.prog=P->X.w=w->X.K=K->∀ pins s σ H xs ys,Inv X pins σ H s->C H xs->C H ys->xs=ys
 draw:∀ (X:Cx),X.prog=P->X.w=w->X.K=K->∀ (i:Nat) (pins:List (Addr×Obj)) (s:Shared) (σ:St) (H:Hp) (xs:List V) (A:Around),Inv X pins σ H s->i6 X pins H it->tn i s.heap->C H xs->A.handled=none->
  ∃ fp Pv St,Draws P w A it fp xs.length Pv St/\St i s.heap/\(∀ j h,St j h->tn j h)/\(∀ j v,Pv j v->∃ x,xs[j]? = some x/\bS x v)/\∀ b,i6 X pins H b->b≠it->b∉fp
theorem aCO{X:Cx}{pins:List (Addr×Obj)}{σ:St}{H:Hp}{s:Shared}{b a:Addr}{o:Obj}(I:Inv X pins σ H s)(hf:i6 X pins H b)(e:X.base.get? a=some o):b≠a:=by
 obtain ⟨_,_,_,h4,_⟩:=hf
 intro z
 rcases h4 with z2|z2
 ·exact I.ok.noex a o e (z▸z2)
 ·have h5:=Heap.lt_size e
  have h6:=I.ok.bsz
  rw[z] at z2
  exact absurd (Nat.lt_of_lt_of_le h5 (Nat.le_trans h6 z2)) (Nat.lt_irrefl _)
theorem aF2{X:Cx}{pins:List (Addr×Obj)}{σ:St}{H:Hp}{s:Shared}{b a:Addr}{xs:List V}(I:Inv X pins σ H s)(hf:i6 X pins H b)(h:SqL X.K H a xs):b≠a:=by
 rcases h with (h|⟨o,h⟩)|⟨o,vs,n,h,_⟩
 · intro z; rw [<- z, hf.1] at h; cases h
 · intro z; rw [<- z, hf.1] at h; cases h
 · exact aCO I hf (I.ok.mod.kin _ _ h)
theorem aF3{X:Cx}{pins:List (Addr×Obj)}{σ:St}{H:Hp}{s:Shared}{b a:Addr}{xs:List V}(I:Inv X pins σ H s)(hf:i6 X pins H b)(h:SqT X.K H a xs):b≠a:=by
 rcases h with (h|⟨o,h⟩)|⟨o,vs,n,h,_⟩
 · intro z; rw [<- z, hf.1] at h; cases h
 · intro z; rw [<- z, hf.1] at h; cases h
 · exact aCO I hf (I.ok.mod.kin _ _ h)
theorem aIC{P:Program}{w:World}{K:Frag}(a it:Addr):ColOk P w K (fun H xs=>SqL K H a xs) it (fun i h=>h.IsListIter it a i) where
 obj:=fun i h ⟨o,e,c,d⟩=>⟨o,e,fun v z=>by rw[d] at z;cases z⟩
 keep:=fun i h h' st k=>st.at fun o e=>k o e
 one:=by
  intro X hP hw hK pins s σ H xs ys I h1 h2
  subst hK
  exact I.list_inj h1 h2
 draw:=by
  intro X hP hw hK i pins s σ H xs A I hf st hx hh
  subst hP hw hK
  obtain ⟨its,rv,p,hz⟩:=I.list hx
  have hne:=aF2 I hf hx
  refine ⟨[it,a],(fun i v=>its.toArray[i]? = some v),(fun i h=>h.IsListIter it a i/\h.IsList a its.toArray),by rw[show xs.length=its.toArray.size by rw[rv.length];simp];exact Draws.list hh it a (Ne.symm hne) its.toArray,⟨st,p.isList⟩,fun j h z=>z.1,fun j v e=>?_,fun b hb nb hm=>?_⟩
  ·have e':its[j]? = some v:=by simpa using e
   have hj:j < xs.length:=by rw[rv.length];exact (List.getElem?_eq_some_iff.mp e').1
   obtain ⟨u,hu,ru⟩:=rv.get (List.getElem?_eq_getElem hj)
   rw[e'] at hu;cases hu
   exact ⟨_,List.getElem?_eq_getElem hj,ru⟩
  ·rcases List.mem_cons.mp hm with z|z
   · exact nb z
   · exact aF2 I hb hx (by simpa using z)
theorem aF4{P:Program}{w:World}{K:Frag}(a it:Addr):ColOk P w K (fun H xs=>SqT K H a xs) it (fun i h=>h.IsTupleIter it a i) where
 obj:=fun i h ⟨o,e,c,d⟩=>⟨o,e,fun v z=>by rw[d] at z;cases z⟩
 keep:=fun i h h' ⟨o,e,r⟩ k=>⟨o,k o e,r⟩
 one:=by
  intro X hP hw hK pins s σ H xs ys I h1 h2
  subst hK
  exact I.tuple_inj h1 h2
 draw:=by
  intro X hP hw hK i pins s σ H xs A I hf st hx hh
  subst hP hw hK
  obtain ⟨its,rv,p,hz⟩:=I.tuple hx
  have hne:=aF3 I hf hx
  refine ⟨[it,a],(fun i v=>its.toArray[i]? = some v),(fun i h=>h.IsTupleIter it a i/\h.IsTuple a its.toArray),by rw[show xs.length=its.toArray.size by rw[rv.length];simp];exact Zp.aBU hh it a (Ne.symm hne) its.toArray,⟨st,p⟩,fun j h z=>z.1,fun j v e=>?_,fun b hb nb hm=>?_⟩
  ·have e':its[j]? = some v:=by simpa using e
   have hj:j < xs.length:=by rw[rv.length];exact (List.getElem?_eq_some_iff.mp e').1
   obtain ⟨u,hu,ru⟩:=rv.get (List.getElem?_eq_getElem hj)
   rw[e'] at hu;cases hu
   exact ⟨_,List.getElem?_eq_getElem hj,ru⟩
  ·rcases List.mem_cons.mp hm with z|z
   · exact nb z
   · exact aF3 I hb hx (by simpa using z)
noncomputable def wG(z:Str):List V:=z.cps.toList.map fun c=>V.str ⟨#[c]⟩
theorem aKW{P:Program}{w:World}{K:Frag}(z:Str)(t:Tok)(it:Addr):ColOk P w K (fun _ xs=>xs=wG z) it (fun i h=>h.IsStrIter it (strIterType z) z t i) where
 obj:=fun i h ⟨o,e,c,d⟩=>⟨o,e,fun v z=>by rw[d] at z;cases z⟩
 keep:=fun i h h' ⟨o,e,r⟩ k=>⟨o,k o e,r⟩
 one:=fun _ _ _ _ _ _ _ _ _ _ _ h1 h2=>h1.trans h2.symm
 draw:=by
  intro X hP hw hK i pins s σ H xs A I hf st hx hh
  subst hP hw hK hx
  have hD:Draws X.prog X.w A it [it] z.cps.size (fun i v=>∃ c u,z.cps[i]? = some c/\v=.str ⟨#[c]⟩ u) (fun i h=>h.IsStrIter it (strIterType z) z t i):=by
   unfold strIterType
   split
   · exact Draws.strAscii hh it z t
   · exact Draws.strWide hh it z t
  refine ⟨[it],_,_,by rw[show (wG z).length=z.cps.size by unfold wG;simp];exact hD,st,fun j h z=>z,?_,fun b hb nb hm=>nb (by simpa using hm)⟩
  rintro j v ⟨c,u,hc,rfl⟩
  exact ⟨.str ⟨#[c]⟩,by unfold wG;rw[List.getElem?_map,Array.getElem?_toList,hc];rfl,u,rfl⟩
def Itz(C1 C2:Col):It:=
 ⟨fun i H=>∃ xs ys,C1 H xs/\C2 H ys/\i < xs.length/\i < ys.length,fun i H x H'=>∃ p u v,H p=none/\x=.ref p/\H'=upd H p (.tup [u,v])/\(∀ xs,C1 H xs->xs[i]? = some u)/\∀ ys,C2 H ys->ys[i]? = some v,
  fun i H=>∃ xs ys,C1 H xs/\C2 H ys/\(i=xs.length\/(i < xs.length/\i=ys.length))⟩
theorem aID{P:Program}{w:World}{K:Frag}{es:List Expr}{k1}{tpos:Pos}{C1 C2:Col}{z TI TO i1 i2:Addr}{t1 t2:Nat->Heap->Prop}(c1:ColOk P w K C1 i1 t1)(c2:ColOk P w K C2 i2 t2)(hd:[z,TI,TO,i1,i2].Nodup) :
  Turn P w K (.Tuple es k1 tpos) (Itz C1 C2) [z,TI,TO,i1,i2] z (fun i h=>IsZip h z TI TO .none/\IsPair h TI (.ref i1) (.ref i2)/\(∃ a b,IsPair h TO a b)/\t1 i h/\t2 i h) where
 mem:=by simp
 obj:=fun i h zz0 c hc=>by
  obtain ⟨s1,s2,⟨a,b,s3⟩,s4,s5⟩:=zz0
  simp only[List.mem_cons,List.not_mem_nil,or_false] at hc
  rcases hc with rfl|rfl|rfl|rfl|rfl
  ·exact ⟨_,s1,fun v z=>by have z':Data.fields _=Data.cell v:=z;cases z'⟩
  ·exact ⟨_,s2,fun v z=>by have z':Data.seq _ _=Data.cell v:=z;cases z'⟩
  ·exact ⟨_,s3,fun v z=>by have z':Data.seq _ _=Data.cell v:=z;cases z'⟩
  ·exact c1.obj i h s4
  ·exact c2.obj i h s5
 keep:=fun i h h' ⟨s1,s2,⟨a,b,s3⟩,s4,s5⟩ k=>⟨k z (by simp) _ s1,k TI (by simp) _ s2,⟨a,b,k TO (by simp) _ s3⟩,c1.keep i h h' s4 fun o e=>k i1 (by simp) o e,c2.keep i h h' s5 fun o e=>k i2 (by simp) o e⟩
 item:=by
  intro X hP hw hK hc i pins s σ H E I hf st hg
  obtain ⟨s1,s2,⟨a,b,s3⟩,s4,s5⟩:=st
  obtain ⟨xs,ys,q1,q2,l1,l2⟩:=hg
  simp only[List.nodup_cons,List.mem_cons,List.not_mem_nil,or_false,not_or,List.nodup_nil,and_true,not_false_eq_true] at hd
  obtain ⟨⟨d1,d2,d3,d4⟩,⟨d5,d6,d7⟩,⟨d8,d9⟩,d10⟩:=hd
  have hhd:X.A.in1.handled=none:=I.ok.hd hc
  obtain ⟨f1,P1,S1,D1,a1,a2,a3,a4⟩:=c1.draw X hP hw hK i pins s σ H xs X.A.in1 I (hf i1 (by simp)) s4 q1 hhd
  obtain ⟨f2,P2,S2,D2,b1,b2,b3,b4⟩:=c2.draw X hP hw hK i pins s σ H ys X.A.in1 I (hf i2 (by simp)) s5 q2 hhd
  have one1:=fun zs (h:C1 H zs)=>c1.one X hP hw hK pins s σ H zs xs I h q1
  have one2:=fun zs (h:C2 H zs)=>c2.one X hP hw hK pins s σ H zs ys I h q2
  subst hP hw hK
  have D:Zp.Apart z TI TO i1 i2 f1 f2:=⟨Ne.symm d1,Ne.symm d2,Ne.symm d3,Ne.symm d4,d5,d6,d7,d8,d9,d10,a4 z (hf z (by simp)) d3,b4 z (hf z (by simp)) d4,a4 TO (hf TO (by simp)) d8,b4 TO (hf TO (by simp)) d9,b4 i1 (hf i1 (by simp)) d10,a4 i2 (hf i2 (by simp)) (Ne.symm d10)⟩
  refine Zp.aF0 D D1 D2 s1 s2 s3 a1 b1 l1 l2 fun x y h' tk px py g1 g2 g3 g4 g5 g6 kp=>?_
  obtain ⟨u,hu,ru⟩:=a3 i x px
  obtain ⟨v,hv,rv⟩:=b3 i y py
  refine ⟨_,rfl,wpAny_letOwnedTupleGo_zip g1 fun h2 se sb=>?_⟩
  have ne1:s.heap.objs.size≠z:=Nat.ne_of_gt (Heap.lt_size s1)
  have hT2:h2.get? s.heap.objs.size=some {cls:=.type "tuple",data:=.seq #[x,y]}:=(sb.2 _ ne1).trans g5
  have fT:H s.heap.objs.size=none:=I.hok.fresh (Nat.le_refl _)
  have kp2:∀ c o,c∉[z,TI,TO,i1,i2]->s.heap.get? c=some o->h2.get? c=some o:=fun c o hc' q=>by
   simp only[List.mem_cons,List.not_mem_nil,or_false,not_or] at hc'
   exact (sb.2 c hc'.1).trans (kp c o hc'.1 hc'.2.2.1 hc'.2.2.2.1 hc'.2.2.2.2 q)
  have nfp:∀ c uu,H c=some uu->c∉[z,TI,TO,i1,i2]:=fun c uu q z2=>by rw[(hf c z2).1] at q;cases q
  have hok2:HOk X.prog X.w H h2:=fun c uu q=>by
   refine (I.hok c uu q).stay (fun c' v' hc' q'=>kp2 c' v' ?_ q') (fun _ q=>q) (fun _ _ q=>q) fun _ _ q=>q
   rcases hc' with z2|z2
   ·rw[z2];exact nfp c uu q
   ·exact nfp c' _ z2
  have hokT:HOk X.prog X.w (upd H s.heap.objs.size (.tup [u,v])) h2:=HOk.track hok2 fT ⟨by show 2<=sizeLine;decide,[x,y],.cons ru (.cons rv .nil),⟨_,hT2,rfl,_,rfl⟩⟩
  have ltT:∀ c uu,H c=some uu->c≠s.heap.objs.size:=fun c uu q=>c6 q fT
  have I2:Inv X pins σ (upd H s.heap.objs.size (.tup [u,v])) {s with heap:=h2,gens:=s.gens,drawn:=s.drawn,toks:=tk}:=by
   refine I.step (ch:=[z,TI,TO,i1,i2]) (fun c hc'=>?_) (fun c o _ _ hc' q _=>kp2 c o hc' q) (fun c o _ _ hc' q _=>⟨o.slots,kp2 c o hc' q⟩)
    (fun c o _ q n=>by rw[aP (Nat.ne_of_lt (Heap.lt_size q))];exact n) (fun c o hc' q=>⟨o,kp2 c o hc' q⟩) (fun c ys q=>by rw[aP (ltT c _ q)];exact q) (fun c o uu q=>by rw[aP (ltT c _ q)];exact q)
    (fun c ps q=>by rw[aP (ltT c _ q)];exact q) (fun m hm=>?_) hokT I.bare
   ·obtain ⟨e0,e1,e2,e3,e4,e5⟩:=hf c hc'
    exact ⟨e3,e1,e4,e5⟩
   ·obtain ⟨o,es',ep,ho,r⟩:=hm
    exact ⟨o,es',ep,kp2 _ o (fun z2=>(hf _ z2).2.1 rfl) ho,r⟩
  refine ⟨.ref s.heap.objs.size,_,I2,rfl,⟨_,u,v,fT,rfl,rfl,fun zs hzs=>by rw[one1 zs hzs];exact hu,fun zs hzs=>by rw[one2 zs hzs];exact hv⟩,⟨se,(sb.2 TI (Ne.symm d1)).trans (kp TI _ (Ne.symm d1) d5 d6 d7 s2),⟨x,y,(sb.2 TO (Ne.symm d2)).trans g2⟩,c1.keep _ _ _ (a2 _ _ g3) fun o e=>(sb.2 i1 (Ne.symm d3)).trans e,c2.keep _ _ _ (b2 _ _ g4) fun o e=>(sb.2 i2 (Ne.symm d4)).trans e⟩,fun c hc'=>?_⟩
  rw[aP]
  ·exact (hf c hc').1
  ·intro z2
   have hlt:c < s.heap.objs.size:=by
    simp only[List.mem_cons,List.not_mem_nil,or_false] at hc'
    rcases hc' with rfl|rfl|rfl|rfl|rfl
    · exact Heap.lt_size s1
    · exact Heap.lt_size s2
    · exact Heap.lt_size s3
    · obtain ⟨o, e, _⟩ := c1.obj _ _ s4; exact Heap.lt_size e
    · obtain ⟨o, e, _⟩ := c2.obj _ _ s5; exact Heap.lt_size e
   rw[z2] at hlt
   exact absurd hlt (Nat.lt_irrefl _)
 done:=by
  intro X hP hw hK hc i pins s σ H E I hf st hg
  obtain ⟨s1,s2,⟨a,b,s3⟩,s4,s5⟩:=st
  obtain ⟨xs,ys,q1,q2,hend⟩:=hg
  simp only[List.nodup_cons,List.mem_cons,List.not_mem_nil,or_false,not_or,List.nodup_nil,and_true,not_false_eq_true] at hd
  obtain ⟨⟨d1,d2,d3,d4⟩,⟨d5,d6,d7⟩,⟨d8,d9⟩,d10⟩:=hd
  have hhd:X.A.in1.handled=none:=I.ok.hd hc
  obtain ⟨f1,P1,S1,D1,a1,a2,a3,a4⟩:=c1.draw X hP hw hK i pins s σ H xs X.A.in1 I (hf i1 (by simp)) s4 q1 hhd
  obtain ⟨f2,P2,S2,D2,b1,b2,b3,b4⟩:=c2.draw X hP hw hK i pins s σ H ys X.A.in1 I (hf i2 (by simp)) s5 q2 hhd
  subst hP hw hK
  have D:Zp.Apart z TI TO i1 i2 f1 f2:=⟨Ne.symm d1,Ne.symm d2,Ne.symm d3,Ne.symm d4,d5,d6,d7,d8,d9,d10,a4 z (hf z (by simp)) d3,b4 z (hf z (by simp)) d4,a4 TO (hf TO (by simp)) d8,b4 TO (hf TO (by simp)) d9,b4 i1 (hf i1 (by simp)) d10,a4 i2 (hf i2 (by simp)) (Ne.symm d10)⟩
  refine Zp.aIA D D1 D2 s1 s2 s3 a1 b1 hend fun h' tk kp=>⟨rfl,?_⟩
  have kp2:∀ c o,c∉[z,TI,TO,i1,i2]->s.heap.get? c=some o->h'.get? c=some o:=fun c o hc' q=>by
   simp only[List.mem_cons,List.not_mem_nil,or_false,not_or] at hc'
   exact kp c o hc'.1 hc'.2.2.1 hc'.2.2.2.1 hc'.2.2.2.2 q
  have nfp:∀ c uu,H c=some uu->c∉[z,TI,TO,i1,i2]:=fun c uu q z2=>by rw[(hf c z2).1] at q;cases q
  have hthere:∀ c o,s.heap.get? c=some o->c∈[TI]->h'.get? c=some o:=fun c o e hm=>by
   have:c=TI:=by simpa using hm
   subst this
   exact kp c o (Ne.symm d1) d5 d6 d7 e
  refine I.step (g':=s.gens) (d':=s.drawn) (ch:=[z,TI,TO,i1,i2]) (fun c hc'=>?_) (fun c o _ _ hc' q _=>kp2 c o hc' q) (fun c o _ _ hc' q _=>⟨o.slots,kp2 c o hc' q⟩) (fun _ _ _ _ n=>n) (fun c o hc' q=>⟨o,kp2 c o hc' q⟩) (fun _ _ q=>q) (fun _ _ _ q=>q) (fun _ _ q=>q) (fun m hm=>?_) (fun c uu q=>?_) I.bare
  ·obtain ⟨e0,e1,e2,e3,e4,e5⟩:=hf c hc'
   exact ⟨e3,e1,e4,e5⟩
  ·obtain ⟨o,es',ep,ho,r⟩:=hm
   exact ⟨o,es',ep,kp2 _ o (fun z2=>(hf _ z2).2.1 rfl) ho,r⟩
  ·refine (I.hok c uu q).stay (fun c' v' hc' q'=>kp2 c' v' ?_ q') (fun _ q=>q) (fun _ _ q=>q) fun _ _ q=>q
   rcases hc' with z2|z2
   ·rw[z2];exact nfp c uu q
   ·exact nfp c' _ z2
 self:=fun _ _ _ _ _ st h=>wpAny_pyIter_zip st.1 h
end L2
namespace L2
open PySem PySem.Spec PyProof.Rows
def aD6(K:Frag)(H:Hp)(x:V)(C:Col):Prop:=
 (∃ a xs,x=.ref a/\SqL K H a xs/\C=fun H xs=>SqL K H a xs)\/(∃ a xs,x=.ref a/\SqT K H a xs/\C=fun H xs=>SqT K H a xs)\/∃ z,x=.str z/\C=fun _ xs=>xs=wG z
theorem aAS{X:Cx}{pins:List (Addr×Obj)}{σ:St}{H:Hp}{s:Shared}{x:V}{u:Value}{C:Col}(I:Inv X pins σ H s)(r:bS x u)(h:aD6 X.K H x C) :
  ∃ (o:Obj) (tn:Addr->Nat->Heap->Prop),(∀ h':Heap,(∀ b ob,s.heap.get? b=some ob->h'.get? b=some ob)->Zp.qQ u o h')/\o.isFreed=false/\(∀ it,ColOk X.prog X.w X.K C it (tn it))/\∀ it h',h'.get? it=some o->tn it 0 h':=by
 rcases h with ⟨a,xs,rfl,hq,rfl⟩|⟨a,xs,rfl,hq,rfl⟩|⟨z,rfl,rfl⟩
 ·cases r
  obtain ⟨its,rv,p,hz⟩:=I.list hq
  refine ⟨{cls:=.type "list_iterator",data:=.fields #[.ref a,.int 0 0]},fun it i h=>h.IsListIter it a i,fun h' kp prog w A E s' Q e q=>?_,rfl,fun it=>aIC a it,fun it h' e=>⟨_,e,rfl,rfl⟩⟩
  subst e
  refine wpAny_pyIter_list (l:=a) (items:=its.toArray) ?_ q
  obtain ⟨o,e,r⟩:=p.isList
  exact ⟨o,kp _ _ e,r⟩
 ·cases r
  obtain ⟨its,rv,p,hz⟩:=I.tuple hq
  refine ⟨{cls:=.type "tuple_iterator",data:=.fields #[.ref a,.int 0 0]},fun it i h=>h.IsTupleIter it a i,fun h' kp prog w A E s' Q e q=>?_,rfl,fun it=>aF4 a it,fun it h' e=>⟨_,e,rfl,rfl⟩⟩
  subst e
  refine wpAny_pyIter_tuple (t:=a) (items:=its.toArray) ?_ q
  obtain ⟨o,e,r⟩:=p
  exact ⟨o,kp _ _ e,r⟩
 ·obtain ⟨t,rfl⟩:=r
  refine ⟨{cls:=.type (strIterType z),data:=.fields #[.str z t,.int 0 0]},fun it i h=>h.IsStrIter it (strIterType z) z t i,fun h' kp prog w A E s' Q e q=>?_,rfl,fun it=>aKW z t it,fun it h' e=>⟨_,e,rfl,rfl⟩⟩
  subst e
  exact wpAny_pyIter_strU q
def aNB(K:Frag)(ta:TA):TI:=fun σ H R=>ta σ H fun vs H1=>∃ x y C1 C2,vs=[x,y]/\aD6 K H1 x C1/\aD6 K H1 y C2/\R (Itz C1 C2) H1
theorem aNC{X:Cx}{es:List Expr}{k1}{tpos:Pos}{a b:Expr}{ta:TA}{p pos:Pos}(hg:Gl X "zip")(hm:X.mg "zip"=none)(ha:PA X [a,b] ta)(hs:starEach [a,b] X.env=[(false,eval a X.env),(false,eval b X.env)]:=by rfl)(hs2:starEach [b] X.env=[(false,eval b X.env)]:=by rfl) :
  PI X (.Tuple es k1 tpos) (.Call (.Name "zip" p) [a,b] [] pos) (aNB X.K ta):=by
 intro pins s σ H R I h
 refine Call_ (lL I hg hm PyProof.Rows.boot_zip (PyProof.Rows.callWith_type1 (thn (ha pos pins s σ H _ I h) fun us s1 ⟨vs,H1,I1,r1,q1⟩=>?_) (by rw[hs,hs2]) (by rw[hs2];rfl)))
 obtain ⟨x,y,C1,C2,rfl,c1,c2,q⟩:=q1
 cases r1 with
 | cons ru rr=>
  cases rr with
  | cons rv rr=>
   cases rr
   rename_i u1 _ u2
   obtain ⟨o1,t1,a1,a2,a3,a4⟩:=aAS I1 ru c1
   obtain ⟨o2,t2,b1,b2,b3,b4⟩:=aAS I1 rv c2
   refine Zp.aIB (a1 _ fun _ _ e=>e) (b1 _ fun _ _ e=>Heap.get?_push_of_some _ e) a2 b2 fun h' z1 z2 z3 z4 z5 z6 kp=>?_
   have I2:Inv X pins σ H1 {s1 with heap:=h'}:=I1.kept (t':=s1.toks) kp
   refine wpAny_pyIter_zip z1 ?_
   refine ⟨s1.heap.objs.size+4,[s1.heap.objs.size+4,s1.heap.objs.size+2,s1.heap.objs.size+3,s1.heap.objs.size,s1.heap.objs.size+1],_,_,H1,rfl,I2,aID (a3 _) (b3 _) ?_,⟨z1,z2,⟨_,_,z3⟩,a4 _ _ z4,b4 _ _ z5⟩,fun c hc=>?_,q⟩
   ·simp only[List.nodup_cons,List.mem_cons,List.not_mem_nil,or_false,not_or,List.nodup_nil,and_true,not_false_eq_true]
    refine ⟨⟨?_,?_,?_,?_⟩,⟨?_,?_,?_⟩,⟨?_,?_⟩,?_⟩<;>(intro z;have z':=congrArg (fun x:Nat=>x - s1.heap.objs.size) z;simp at z')
   ·have hle:s1.heap.objs.size<=c:=by
     simp only[List.mem_cons,List.not_mem_nil,or_false] at hc
     rcases hc with rfl|rfl|rfl|rfl|rfl
     · exact Nat.le_add_right _ _
     · exact Nat.le_add_right _ _
     · exact Nat.le_add_right _ _
     · exact Nat.le_refl _
     · exact Nat.le_add_right _ _
    exact I1.fpOk hle (I1.hok.fresh hle)
end L2
namespace Fl
open PySem L2 PyProof.Rows
noncomputable def aD7(p:PyData×PyData):PyData:=.tuple [p.1,p.2]
noncomputable def aAT(x y:PyData):R (List PyData):=(eM x).bind fun xs=>(eM y).bind fun ys=>.ok ((xs.zip ys).map aD7)
theorem aD8{d:PyData}{xs:List PyData}(h:eM d=.ok xs):xs.length<=16777216:=by
 unfold eM at h
 split at h
 ·split at h
  · rename_i hz; cases h; exact hz
  · cases h
 ·split at h
  · rename_i hz; cases h; exact hz
  · cases h
 ·split at h
  · rename_i hz; cases h; rw [List.length_map]; exact hz
  · cases h
 ·cases h
theorem xQ{d:PyData}{e:Er}:eM d≠.ex e:=by
 intro h
 unfold eM at h
 split at h
 · split at h <;> cases h
 · split at h <;> cases h
 · split at h <;> cases h
 · cases h
theorem aAU{K:Frag}{F:Hp}:∀ (cs:List Nat),DatVs K F (cs.map fun c=>V.str ⟨#[c]⟩) (cs.map fun c=>PyData.str ⟨#[c]⟩)
 | []=>.nil
 | c::t=>.cons (.str _) (aAU t)
theorem aAV{K:Frag}{F B:Hp}{v:V}{d:PyData}{xs:List PyData}(s:aR F B)(r:DatV K F v d)(h:eM d=.ok xs):∃ C vs,aD6 K B v C/\(∀ H1,aR F H1->C H1 vs)/\DatVs K F vs xs:=by
 unfold eM at h
 split at h
 ·split at h
  ·cases h
   obtain ⟨p,vs,rfl,h1,h2⟩:=DatV.lst_of r
   exact ⟨_,vs,.inl ⟨p,vs,rfl,h1.same s,rfl⟩,fun H1 q=>h1.same q,h2⟩
  ·cases h
 ·split at h
  ·cases h
   obtain ⟨p,vs,rfl,h1,h2⟩:=DatV.tup_of r
   exact ⟨_,vs,.inr (.inl ⟨p,vs,rfl,h1.same s,rfl⟩),fun H1 q=>h1.same q,h2⟩
  ·cases h
 ·rename_i z
  split at h
  ·cases h
   obtain rfl:=DatV.str_of r
   exact ⟨_,wG z,.inr (.inr ⟨z,rfl,rfl⟩),fun _ _=>rfl,aAU _⟩
  ·cases h
 ·cases h
theorem aCP{α β:Type}:∀ {xs:List α} {ys:List β} {i:Nat} {x:α} {y:β},xs[i]? = some x->ys[i]? = some y->(xs.zip ys)[i]? = some (x,y)
 | [],_,_,_,_,h,_=>by simp at h
 | _::_,[],_,_,_,_,h=>by simp at h
 | x::xs,y::ys,0,_,_,h1,h2=>by simp at h1 h2;subst h1 h2;rfl
 | x::xs,y::ys,i+1,_,_,h1,h2=>by
  show (xs.zip ys)[i]? = _
  exact aCP (by simpa using h1) (by simpa using h2)
theorem aKX{K:Frag}{F B:Hp}{C1 C2:Col}{us vs:List V}{xs ys:List PyData}(hz:xs.length<=16777216)(h1:∀ H1,aR F H1->aR B H1->C1 H1 us)(h2:∀ H1,aR F H1->aR B H1->C2 H1 vs)(d1:DatVs K F us xs)(d2:DatVs K F vs ys) :
  Yld K (Itz C1 C2) F B ((xs.zip ys).map aD7) where
 len:=by rw[dP,List.length_map,List.length_zip];omega
 go:=fun i F1 H1 a1 a2 a3 hi=>by
  rw[List.length_map,List.length_zip] at hi
  have hs:aR F H1:=fun x o z=>a2 x o (a1 x o z)
  exact ⟨us,vs,h1 H1 hs a3,h2 H1 hs a3,by rw[d1.length];omega,by rw[d2.length];omega⟩
 yld:=fun i F1 H1 v H2 x a1 a2 a3 y e=>by
  obtain ⟨p,u,w,hp,rfl,rfl,y1,y2⟩:=y
  have hs:aR F H1:=fun x o z=>a2 x o (a1 x o z)
  obtain ⟨dx,e1,r1⟩:=d1.get (y1 us (h1 H1 hs a3))
  obtain ⟨dy,e2,r2⟩:=d2.get (y2 vs (h2 H1 hs a3))
  rw[List.getElem?_map,aCP e1 e2] at e
  cases e
  have sm:=aR.upd (o:=.tup [u,w]) (bT a2 hp)
  exact ⟨_,Ext.new a2 hp,.tup (SqT.of aY) (.cons ((r1.same a1).same sm) (.cons ((r2.same a1).same sm) .nil))⟩
 stop:=fun F1 H1 a1 a2 a3=>by
  have hs:aR F H1:=fun x o z=>a2 x o (a1 x o z)
  refine ⟨us,vs,h1 H1 hs a3,h2 H1 hs a3,?_⟩
  rw[List.length_map,List.length_zip,d1.length,d2.length]
  omega
section
variable{X:Cx}{c:Ct}{E:XK}{tg e:Expr}
theorem aKY{f g:Sg->R PyData}(hK:X.K=c.K)(h:PI X tg e (aNB X.K (dY (tV (bZ c) c E f) (dY (tV (bZ c) c E g) gG)))):PI0 X c E tg e (fun ρ=>(f ρ).bind fun x=>(g ρ).bind fun y=>aAT x y):=PI.imp h fun σ H Q zz0=>by
 obtain ⟨ρ,F,ab,k⟩:=zz0
 refine ⟨ρ,F,ab,(Rk.bind k).imp fun x _ q v F1 H1 s1 r1=>⟨ρ,F1,ab.ext s1,((Rk.bind q).ext s1).imp fun y _ q w F' H' s r=>?_⟩⟩
 unfold aAT at q
 cases e1:eM x with
 | bad=>rw[e1] at q;exact q.elim
 | ex e=>exact absurd e1 xQ
 | ok xs=>
  rw[e1] at q
  cases e2:eM y with
  | bad=>rw[R.bind_ok,e2] at q;exact q.elim
  | ex e=>exact absurd e2 xQ
  | ok ys=>
   rw[R.bind_ok,e2] at q
   have r1':DatV c.K F' v x:=DatV.same s.ff r1
   obtain ⟨C1,us,a1,a2,a3⟩:=aAV s.fh r1' e1
   obtain ⟨C2,vs,b1,b2,b3⟩:=aAV s.fh r e2
   rw[hK]
   exact ⟨v,w,C1,C2,rfl,a1,b1,Rk.ok q _ F' H' (s1.trans s) (aKX (aD8 e1) (fun H1 z _=>a2 H1 z) (fun H1 z _=>b2 H1 z) a3 b3)⟩
end
end Fl
namespace L2
open PySem PySem.Spec PyProof.Rows
end L2
namespace Fl
open PySem L2 PyProof.Rows
section
variable{X:Cx}{c:Ct}{E:XK}{e a b:Expr}{st:Stmt}{pos:Pos}
noncomputable def aO4(i:Nat)(f g:Sg->R PyData):Sg->R Fw:=fun ρ=>match ρ[i]? with
 | some (some (.m kvs))=>(f ρ).bind fun k=>(g ρ).bind fun y=>if eW k (kvs.map (·.1))=true/\kvs.length<=16777216 then .ok (.nx (if fX kvs k=true then ρ else ρ.set i (some (.m (putM kvs k y))))) else .bad
 | _=>.bad
end
end Fl
namespace Fl
open PySem L2 PyProof.Rows
def aP6(i:Nat):Sg->R Fw:=fun ρ=>match ρ[i]? with
 | some (some (.l xs))=>.ok (.nx (ρ.set i (some (.l xs.reverse))))
 | _=>.bad
end Fl
namespace Zp
open PySem
end Zp
namespace Fl
open PySem L2 PyProof.Rows
end Fl
namespace Fl
open PySem L2 PyProof.Rows
end Fl
namespace Zp
open PySem
def Raw(h:Heap)(d:Addr)(ar:Array DictEntry)(ep:Nat):Prop:=∃ o,h.get? d=some o/\o.ExactDict/\o.data=.dict ar ep
end Zp
namespace Fl
open PySem L2 PyProof.Rows
section
variable{X:Cx}{c:Ct}{E:XK}{tg e:Expr}
end
end Fl
namespace Zp
open PySem
end Zp
namespace Zp
open PySem
structure Jz(P1 P2:Nat->Value->Prop)(S1 S2:Nat->Heap->Prop)(s0:Heap)(z TI TO i1 i2 S:Addr)(n:Nat)(acc:Array Value)(h:Heap):Prop where
 size:acc.size<=n
 inc:∀ (j k p q:Nat),j < k->acc[j]? = some (.ref p)->acc[k]? = some (.ref q)->p < q
 top:∀ (j p:Nat),acc[j]? = some (.ref p)->p < h.objs.size
 told:∀ (j:Nat) v,acc[j]? = some v->∃ p x y,v=.ref p/\S < p/\IsPair h p x y/\P1 j x/\P2 j y
 s1:S1 acc.size h
 s2:S2 acc.size h
 ti:IsPair h TI (.ref i1) (.ref i2)
 keep:∀ c o,c≠z->c≠TO->c≠i1->c≠i2->c≠S->s0.get? c=some o->h.get? c=some o
 big:S < h.objs.size
 st:(acc.size=0/\IsZip h z TI TO .none/\∃ a b,IsPair h TO a b)\/(0 < acc.size/\∃ (T:Addr) (bb:Bool) (o:Obj),mR h z TI TO (rawInt T) (.bool bb)/\h.get? T=some o/\S < T)
end Zp
namespace L2
open PySem PySem.Spec PyProof.Rows
structure LZ(H1 H2:Hp)(xs ys:List V)(l:Addr)(ps:List Addr):Prop where
 same:∀ b o,H1 b=some o->H2 b=some o
 new:H1 l=none
 lst:H2 l=some (.lst (ps.map .ref))
 len:ps.length=min xs.length ys.length
 tup:∀ (j:Nat) p,ps[j]? = some p->H1 p=none/\∃ u v,xs[j]? = some u/\ys[j]? = some v/\H2 p=some (.tup [u,v])
end L2
namespace HT
open PySem PySem.Spec PyProof.Rows L2
end HT
namespace Fl
open PySem L2 PyProof.Rows
end Fl
namespace L2
open PySem PySem.Spec PyProof.Rows
end L2
namespace Mc
open PySem L2 PyProof.Rows Fl
noncomputable def pB:Sg->R Fw:=(bN (vD (e1 dLen (e2 dIx (e2 dIx (rV 0) (eC (.int 0))) (eC (.int 1))))))
noncomputable def kF:List A->R A:=fnF 1 pB
noncomputable def mS:Sg->R Fw:=(aH (bB 2 (vD (eSl dSl (eC (.str "abc")) oNo (oSo (rV 0)))))
 (aH (jT (e1 yX (eV 1)) (stT [(stN 3),(stN 4)]) (sIf (e1 asB (e2 dNin (rV 4) (rV 2))) (uN "NoStrip" ["at"] (aB (eV 3) aO)) sNx))
 (bN (vV 1))))
noncomputable def iL:List A->R A:=fnF 5 mS
noncomputable def qR:Sg->R Fw:=(bN (bA 2 iL (aB (bA 1 kF (aB (vV 0) aO)) (aB (vV 1) aO))))
noncomputable def iM:List A->R A:=fnF 2 qR
noncomputable def qS:Sg->R Fw:=(aH (bB 3 (vD (e2 dIx (rV 2) (eC (.int 0)))))
 (aH (bB 4 (vD (e2 dIx (rV 0) (e2 dIx (rV 2) (eC (.int 1))))))
 (aH (sIf (e1 asB (e2 dEq (rV 3) (eC (.int 0)))) (bN (vD (cO (aB (e2 dIx (rV 4) (eC (.int 0))) (aB (eC (.int 1)) aO))))) sNx)
 (aH (sIf (e1 asB (e2 dEq (rV 3) (e2 bM (e1 dLen (rV 1)) (eC (.int 1))))) (bN (vD (cO (aB (e2 dIx (rV 4) (eC (.int 2))) (aB (e1 dNeg (eC (.int 1))) aO))))) sNx)
 (bN (vD (e2 dIx (e2 dIx (rV 4) (eC (.int 1))) (e2 qM (eC (.str "abc")) (e2 dIx (rV 1) (e2 dSub (rV 3) (eC (.int 1))))))))))))
noncomputable def gX:List A->R A:=fnF 5 qS
noncomputable def aAW:Sg->R Fw:=(aH (yW (bA 2 iM (aB (vV 0) (aB (vV 1) aO))))
 (aH (bB 2 (vD (eC (.tuple [.int 0,.int 0]))))
 (aH (eH 3 (eP (aB (eV 2) aO)))
 (aH (rY 4)
 (aH (cV (e1 asB (tK true 4 (eV 2))) (aH (rZ 4 (eV 2) (eC (.bool true)))
 (aH (bB 5 (bA 3 gX (aB (vV 0) (aB (vV 1) (aB (vV 2) aO)))))
 (aH (sIf (e1 asB (e2 dIn (e2 dIx (rV 5) (eC (.int 0))) (eC (.tuple [.str "by",.str "out"])))) (sFz 3 (bN (vV 3))) sNx)
 (aH (bB 2 (vD (cO (aB (e2 bM (e2 dIx (rV 2) (eC (.int 0))) (e2 dIx (rV 5) (eC (.int 1)))) (aB (e2 dIx (rV 5) (eC (.int 0))) aO)))))
 (g8 3 (eV 2)))))))
 (sFz 3 (bN (vV 3))))))))
noncomputable def mT:List A->R A:=fnF 6 aAW
end Mc
namespace Mc
open PySem L2 PyProof.Rows
end Mc
namespace Fl
open PySem L2 PyProof.Rows
@[simp] theorem b9(d:PyData)(ρ:Sg):eC d ρ=.ok d:=id rfl
@[simp] theorem cG{α β:Type}(g:α->R β)(f:Sg->R α)(ρ:Sg):e1 g f ρ=(f ρ).bind g:=id rfl
@[simp] theorem cB{α β γ:Type}(g:α->β->R γ)(f:Sg->R α)(f':Sg->R β)(ρ:Sg):e2 g f f' ρ=(f ρ).bind fun x=>(f' ρ).bind fun y=>g x y:=id rfl
@[simp] theorem iG(i:Nat)(ρ:Sg):eV i ρ=match ρ[i]? with|some (some (.d x))=>.ok x|_=>.bad:=id rfl
@[simp] theorem bU(i:Nat)(ρ:Sg):rV i ρ=match ρ[i]? with|some (some (.d x))=>.ok x|some (some (.l xs))=>.ok (.list xs)|_=>.bad:=id rfl
@[simp] theorem gL(i:Nat)(ρ:Sg):vV i ρ=match ρ[i]? with|some (some (.d x))=>.ok (.d x)|some (some (.x e))=>.ok (.x e)|some (some (.g k n f))=>.ok (.g k n f)|some (some (.f kvs))=>.ok (.f kvs)|_=>.bad:=id rfl
@[simp] theorem eB(f:Sg->R PyData)(ρ:Sg):vD f ρ=(f ρ).bind fun x=>.ok (.d x):=id rfl
@[simp] theorem kG(x:PyData):getD (.d x)=.ok x:=id rfl
@[simp] theorem l7(f:Sg->R A)(ρ:Sg):eA f ρ=(f ρ).bind getD:=id rfl
@[simp] theorem y0(f:Sg->R (List PyData))(ρ:Sg):eL f ρ=(f ρ).bind fun xs=>.ok (.list xs):=id rfl
@[simp] theorem cH{α:Type}(ρ:Sg):(aO (α:=α)) ρ=.ok []:=id rfl
@[simp] theorem cF{α:Type}(f:Sg->R α)(g:Sg->R (List α))(ρ:Sg):aB f g ρ=(f ρ).bind fun x=>(g ρ).bind fun xs=>.ok (x::xs):=id rfl
@[simp] theorem gQ(f:Sg->R (List PyData))(ρ:Sg):cO f ρ=(f ρ).bind fun xs=>if xs.length<=16777216 then .ok (.tuple xs) else .bad:=id rfl
@[simp] theorem iT(f:Sg->R (List PyData))(ρ:Sg):eP f ρ=(f ρ).bind fun xs=>if xs.length<=16777216 then .ok xs else .bad:=id rfl
@[simp] theorem fP(n:Nat)(G:List A->R A)(f:Sg->R (List A))(ρ:Sg):bA n G f ρ=(f ρ).bind fun as=>if as.length=n then G as else .bad:=id rfl
@[simp] theorem d0(n:Nat)(fb:Sg->R Fw)(as:List A):fnF n fb as=(fb (as.map some++List.replicate (n - as.length) none)).bind fun w=>match w with | .rt (.l _)=>.bad | .rt a=>.ok a | .nx _=>.ok (.d .none)|_=>.bad:=id rfl
@[simp] theorem f8(ρ:Sg):sNx ρ=.ok (.nx ρ):=id rfl
@[simp] theorem bR(f g:Sg->R Fw)(ρ:Sg):aH f g ρ=(f ρ).bind fun w=>match w with | .nx ρ'=>g ρ'|w=>.ok w:=id rfl
@[simp] theorem fM(f:Sg->R A)(ρ:Sg):bN f ρ=(f ρ).bind fun a=>.ok (.rt a):=id rfl
@[simp] theorem aP7(ρ:Sg):aOV ρ=.ok (.rt (.d .none)):=id rfl
@[simp] theorem cW(t:Sg->R Bool)(f g:Sg->R Fw)(ρ:Sg):sIf t f g ρ=(t ρ).bind fun b=>if b=true then f ρ else g ρ:=id rfl
@[simp] theorem aQS{α:Type}(t:Sg->R Bool)(f g:Sg->R α)(ρ:Sg):eIf t f g ρ=(t ρ).bind fun b=>if b=true then f ρ else g ρ:=id rfl
@[simp] theorem cT(i:Nat)(f:Sg->R A)(ρ:Sg):bB i f ρ=(f ρ).bind fun a=>.ok (.nx (ρ.set i (some a))):=id rfl
@[simp] theorem fQ(i:Nat)(f:Sg->R (List PyData))(ρ:Sg):eH i f ρ=(f ρ).bind fun xs=>.ok (.nx (ρ.set i (some (.l xs)))):=id rfl
@[simp] theorem aIE(f:Sg->R A)(ρ:Sg):yW f ρ=(f ρ).bind fun _=>.ok (.nx ρ):=id rfl
@[simp] theorem aQT(i:Nat)(f:Sg->R Fw)(ρ:Sg):sFz i f ρ=f (fz i ρ):=id rfl
@[simp] theorem aRC(i:Nat)(ρ:Sg):fz i ρ=match ρ[i]? with|some (some (.l xs))=>ρ.set i (some (.d (.list xs)))|_=>ρ:=id rfl
@[simp] theorem aQG(i:Nat)(f:Sg->R PyData)(ρ:Sg):g8 i f ρ=match ρ[i]? with|some (some (.l xs))=>(f ρ).bind fun x=>if xs.length < 16777216 then .ok (.nx (ρ.set i (some (.l (xs++[x]))))) else .bad|_=>.bad:=id rfl
@[simp] theorem aKZ(fs:PyData->Sg->Option Sg)(f:Sg->R PyData)(ρ:Sg):qO fs f ρ=(f ρ).bind fun x=>(wC (fs x ρ)).bind fun ρ'=>.ok (.nx ρ'):=id rfl
@[simp] theorem j4(fi:Sg->R (List PyData))(fs:PyData->Sg->Option Sg)(fb:Sg->R Fw)(ρ:Sg):jT fi fs fb ρ=(fi ρ).bind fun xs=>i9 fs fb xs ρ:=id rfl
@[simp] theorem aAX(js:List (Option Nat))(fi:Sg->R (List PyData))(fs:PyData->Sg->Option Sg)(ft:Sg->R Bool)(fe:Sg->R PyData)(ρ:Sg):lF js fi fs ft fe ρ=(fi ρ).bind fun xs=>compL fs ft fe (mP js ρ) xs:=id rfl
@[simp] theorem aPG(cn:Str)(fs:List Str)(f:Sg->R (List PyData))(ρ:Sg):uN cn fs f ρ=(f ρ).bind fun xs=>if xs.length=fs.length then .ex ⟨cn,fs.zip xs⟩ else .bad:=id rfl
@[simp] theorem kH(i:Nat)(x:PyData)(ρ:Sg):stN i x ρ=some (ρ.set i (some (.d x))):=id rfl
@[simp] theorem aF5(fs:List (PyData->Sg->Option Sg))(xs:List PyData)(ρ:Sg):stT fs (.tuple xs) ρ=stL fs xs ρ:=id rfl
@[simp] theorem aCQ(ρ:Sg):stL [] [] ρ=some ρ:=id rfl
@[simp] theorem aAY(f:PyData->Sg->Option Sg)(fs:List (PyData->Sg->Option Sg))(x:PyData)(xs:List PyData)(ρ:Sg):stL (f::fs) (x::xs) ρ=(f x ρ).bind (stL fs xs):=id rfl
@[simp] theorem aCR(ρ:Sg):mQ ρ=.ok true:=id rfl
@[simp] theorem cX(b:Bool):asB (.bool b)=.ok b:=id rfl
@[simp] theorem aK0(f:Sg->R Bool)(ρ:Sg):aAC f ρ=(f ρ).bind fun b=>.ok (!b):=id rfl
@[simp] theorem iU(f g:Sg->R Bool)(ρ:Sg):gP f g ρ=(f ρ).bind fun b=>if b=true then g ρ else .ok false:=id rfl
@[simp] theorem aQU(f g:Sg->R Bool)(ρ:Sg):bOr f g ρ=(f ρ).bind fun b=>if b=true then .ok true else g ρ:=id rfl
@[simp] theorem aQH(f:Sg->R PyData)(ρ:Sg):aP0 f ρ=(f ρ).bind fun x=>(asB x).bind fun b=>.ok (.bool (!b)):=id rfl
@[simp] theorem aK1(f g:Sg->R PyData)(ρ:Sg):aAD f g ρ=(f ρ).bind fun x=>(asB x).bind fun b=>if b=true then g ρ else .ok (.bool false):=id rfl
@[simp] theorem aQV(f g:Sg->R PyData)(ρ:Sg):eOr f g ρ=(f ρ).bind fun x=>(asB x).bind fun b=>if b=true then .ok (.bool true) else g ρ:=id rfl
@[simp] theorem aQW(g g':PyData->PyData->R PyData)(fa fb fc:Sg->R PyData)(ρ:Sg):eCh g g' fa fb fc ρ=(fa ρ).bind fun x=>(fb ρ).bind fun y=>(g x y).bind fun z=>(asB z).bind fun k=>if k=true then (fc ρ).bind fun w=>g' y w else .ok (.bool false):=id rfl
@[simp] theorem aAZ{α:Type}(g:PyData->Option Int->Option Int->R α)(f:Sg->R PyData)(lo hi:Sg->R (Option Int))(ρ:Sg):eSl g f lo hi ρ=(f ρ).bind fun x=>(lo ρ).bind fun l=>(hi ρ).bind fun h=>g x l h:=id rfl
@[simp] theorem aA0(ρ:Sg):oNo ρ=.ok none:=id rfl
@[simp] theorem aA1(f:Sg->R PyData)(ρ:Sg):oSo f ρ=(f ρ).bind fun x=>match x with | .int i=>.ok (some i)|_=>.bad:=id rfl
@[simp] theorem iV(f:Sg->R PyData)(ρ:Sg):fB f ρ=(f ρ).bind fun x=>match x with | .int j=>fF 0 j|_=>.bad:=id rfl
@[simp] theorem uR(f g:Sg->R PyData)(ρ:Sg):mC f g ρ=(f ρ).bind fun x=>(g ρ).bind fun y=>match x,y with | .int i,.int j=>fF i j|_,_=>.bad:=id rfl
@[simp] theorem aQI(f:Sg->R PyData)(g:Sg->R (Option Int))(ρ:Sg):aP2 f g ρ=(f ρ).bind fun x=>(g ρ).bind fun o=>if o=some (-1) then aM6 x else .bad:=id rfl
@[simp] theorem aQJ(i:Nat)(g:PyData->PyData->R PyData)(f:Sg->R PyData)(ρ:Sg):aP1 i g f ρ=(eV i ρ).bind fun x=>(f ρ).bind fun y=>(g x y).bind fun z=>.ok (.nx (ρ.set i (some (.d z)))):=id rfl
@[simp] theorem aA2(i:Nat)(ρ:Sg):rY i ρ=.ok (.nx (ρ.set i (some (.m [])))):=id rfl
@[simp] theorem aQK(neg:Bool)(i:Nat)(f:Sg->R PyData)(ρ:Sg):tK neg i f ρ=(f ρ).bind fun k=>match ρ[i]? with|some (some (.m kvs))=>if eW k (kvs.map (·.1))=true then .ok (.bool (if neg=true then !fX kvs k else fX kvs k)) else .bad|some (some (.f kvs))=>if eW k (kvs.map (·.1))=true then .ok (.bool (if neg=true then !fX kvs k else fX kvs k)) else .bad|_=>.bad:=id rfl
@[simp] theorem aP8(i:Nat)(f:Sg->R PyData)(ρ:Sg):aOY i f ρ=match ρ[i]? with|some (some (.m kvs))=>(f ρ).bind fun k=>if eW k (kvs.map (·.1))=true then (match kY kvs k with|some v=>.ok v|none=>.bad) else .bad|some (some (.f kvs))=>(f ρ).bind fun k=>if eW k (kvs.map (·.1))=true then (match kY kvs k with|some v=>.ok v|none=>.bad) else .bad|_=>.bad:=id rfl
@[simp] theorem aP9(i:Nat)(f g:Sg->R PyData)(ρ:Sg):rZ i f g ρ=(g ρ).bind fun v=>match ρ[i]? with|some (some (.m kvs))=>(f ρ).bind fun k=>if eW k (kvs.map (·.1))=true/\kvs.length<=16777216 then .ok (.nx (ρ.set i (some (.m (putM kvs k v))))) else .bad|_=>.bad:=id rfl
@[simp] theorem f9(i j:Int):bM (.int i) (.int j)=.ok (.int (i+j)):=id rfl
@[simp] theorem qT(i j:Int):dSub (.int i) (.int j)=.ok (.int (i - j)):=id rfl
@[simp] theorem aQL(i j:Int):aOU (.int i) (.int j)=.ok (.int (i+j)):=id rfl
@[simp] theorem qU(i:Int):dNeg (.int i)=.ok (.int (-i)):=id rfl
@[simp] theorem nQ(i j:Int):dLt (.int i) (.int j)=.ok (.bool (decide (i < j))):=id rfl
@[simp] theorem aRD(i j:Int):dLe (.int i) (.int j)=.ok (.bool (decide (i<=j))):=id rfl
@[simp] theorem aJH(i j:Int):dGt (.int i) (.int j)=.ok (.bool (decide (j < i))):=id rfl
@[simp] theorem aRE(i j:Int):dGe (.int i) (.int j)=.ok (.bool (decide (j<=i))):=id rfl
theorem cE{i j:Int}(h:0 < j):dMod (.int i) (.int j)=.ok (.int (i % j)):=if_pos h
theorem eZ{i j:Int}(h:0 < j)(h2:j < 18446744073709551616):dDiv (.int i) (.int j)=.ok (.int (i / j)):=if_pos ⟨h,h2⟩
theorem qV{i j:Int}(h : -18446744073709551616 < j)(h2:j < 18446744073709551616):dMul (.int i) (.int j)=.ok (.int (i * j)):=if_pos (.inr ⟨h,h2⟩)
theorem uS{i j:Int}(h : -18446744073709551616 < i)(h2:i < 18446744073709551616):dMul (.int i) (.int j)=.ok (.int (i * j)):=if_pos (.inl ⟨h,h2⟩)
@[simp] theorem gR(xs:List PyData):dLen (.list xs)=.ok (.int xs.length):=id rfl
@[simp] theorem aF6(xs:List PyData):dLen (.tuple xs)=.ok (.int xs.length):=id rfl
theorem qW{z:Str}(h:z.length<=16777216):dLen (.str z)=.ok (.int z.length):=if_pos h
@[simp] theorem aND(xs:List PyData):dTup (.list xs)=.ok (.tuple xs):=id rfl
@[simp] theorem aQX(xs:List PyData):dTup (.tuple xs)=.ok (.tuple xs):=id rfl
@[simp] theorem aQY(xs:List PyData):dLst (.list xs)=.ok xs:=id rfl
@[simp] theorem aQZ(xs:List PyData):dLst (.tuple xs)=.ok xs:=id rfl
@[simp] theorem aQ0(i:Int):dInt (.int i)=.ok (.int i):=id rfl
@[simp] theorem aQ1(b:Bool):dInt (.bool b)=.ok (.int (if b=true then 1 else 0)):=id rfl
@[simp] theorem aRF(x:PyData):dIs x .none=.ok (.bool (jP x)):=id rfl
@[simp] theorem sA(x:PyData):dIsnt x .none=.ok (.bool (!jP x)):=id rfl
@[simp] theorem aK2:jP .none=true:=id rfl
@[simp] theorem aQM(xs:List PyData):jP (.tuple xs)=false:=id rfl
@[simp] theorem wH(i:Int):jP (.int i)=false:=id rfl
@[simp] theorem aQN(i:Str):jP (.str i)=false:=id rfl
theorem kZ{α:Type}{xs:List α}{i:Int}{v:α}(h0:0<=i)(h:xs[i.toNat]? = some v):atI xs i=some v:=by
 obtain ⟨j,rfl⟩:∃ j:Nat,i=j:=⟨i.toNat,by omega⟩
 exact kR (j:=j) h
theorem aA3{α:Type}(x:α)(t:List α):atI (x::t) 0=some x:=kR (j:=0) rfl
theorem aCS{α:Type}(x y:α)(t:List α):atI (x::y::t) 1=some y:=kR (j:=1) rfl
theorem aK3{α:Type}(x y z:α)(t:List α):atI (x::y::z::t) 2=some z:=kR (j:=2) rfl
theorem sB{xs:List PyData}{i:Int}{v:PyData}(h:atI xs i=some v):dIx (.tuple xs) (.int i)=.ok v:=by show (match atI xs i with|some v=>R.ok v|none=>.bad)=_;rw[h]
theorem nR{xs:List PyData}{i:Int}{v:PyData}(h:atI xs i=some v):dIx (.list xs) (.int i)=.ok v:=by show (match atI xs i with|some v=>R.ok v|none=>.bad)=_;rw[h]
theorem aD9{z:Str}{i:Int}{u:Nat}(hz:z.length<=16777216)(h:atI z.cps.toList i=some u):dIx (.str z) (.int i)=.ok (.str ⟨#[u]⟩):=by
 show (if z.length<=sizeLine then match atI z.cps.toList i with|some u=>R.ok (PyData.str ⟨#[u]⟩)|none=>.bad else .bad)=_
 rw[dP,if_pos hz,h]
@[simp] theorem aF7(x:PyData)(t:List PyData):dIx (.tuple (x::t)) (.int 0)=.ok x:=sB (aA3 x t)
@[simp] theorem aQ2(x y:PyData)(t:List PyData):dIx (.tuple (x::y::t)) (.int 1)=.ok y:=sB (aCS x y t)
@[simp] theorem aQ3(x y z:PyData)(t:List PyData):dIx (.tuple (x::y::z::t)) (.int 2)=.ok z:=sB (aK3 x y z t)
@[simp] theorem aNE(x:PyData)(t:List PyData):dIx (.list (x::t)) (.int 0)=.ok x:=nR (aA3 x t)
@[simp] theorem aNF(x y:PyData)(t:List PyData):dIx (.list (x::y::t)) (.int 1)=.ok y:=nR (aCS x y t)
theorem mU{xs:List PyData}(h:xs.length<=16777216):eM (.list xs)=.ok xs:=if_pos h
theorem oK{x y:PyData}(hx:SeqAt.shaped x=true)(hy:SeqAt.shaped y=true):dEq x y=.ok (.bool (PyData.eqv x y)):=if_pos ⟨hx,hy⟩
theorem aNG{x y:PyData}(hx:SeqAt.shaped x=true)(hy:SeqAt.shaped y=true):dNe x y=.ok (.bool (!PyData.eqv x y)):=if_pos ⟨hx,hy⟩
@[simp] theorem aQ4(T:String)(i:Int):jB T (.int i)=.ok (.bool (jU "int" T)):=id rfl
@[simp] theorem aQ5(T:String)(i:Str):jB T (.str i)=.ok (.bool (jU "str" T)):=id rfl
@[simp] theorem aQ6(T:String)(i:List PyData):jB T (.tuple i)=.ok (.bool (jU "tuple" T)):=id rfl
@[simp] theorem aQ7(T:String)(i:List PyData):jB T (.list i)=.ok (.bool (jU "list" T)):=id rfl
@[simp] theorem aQ8(T:String)(i:Bool):jB T (.bool i)=.ok (.bool (jU "bool" T)):=id rfl
@[simp] theorem aQ9(T:String):jB T .none=.ok (.bool (jU "NoneType" T)):=id rfl
theorem aO5{xs:List PyData}{lo hi:Option Int}(h:¬ (HT.sIx xs.length 0 lo=0/\HT.sIx xs.length xs.length hi=xs.length)):dSl (.tuple xs) lo hi=.ok (.tuple (jA xs lo hi)):=by
 unfold dSl;exact if_pos h
theorem aO6(xs:List PyData)(lo hi:Option Int):dSl (.list xs) lo hi=.ok (.list (jA xs lo hi)):=id rfl
theorem aNH{xs ys:List PyData}(h:xs.isEmpty=false)(h2:xs.length+ys.length<=16777216):bM (.tuple xs) (.tuple ys)=.ok (.tuple (xs++ys)):=by
 unfold bM;exact if_pos ⟨h,by rw[dP];exact h2⟩
theorem aNI{x y:Str}(h:x.length+y.length<=16777216):bM (.str x) (.str y)=.ok (.str (x++y)):=by
 unfold bM;exact if_pos (by rw[dP];exact h)
theorem pC{α:Type}{fs:PyData->Sg->Option Sg}{fe:Sg->R PyData}{ρ0:Sg}{d:α->PyData}{g:α->PyData}:∀ {xs:List α},(∀ x∈xs,∃ ρ1,fs (d x) ρ0=some ρ1/\fe ρ1=.ok (g x))->compL fs mQ fe ρ0 (xs.map d)=.ok (xs.map g)
 | [],_=>rfl
 | x::t,h=>by
  obtain ⟨ρ1,h1,h2⟩:=h x List.mem_cons_self
  rw[List.map_cons]
  unfold compL
  rw[h1,pC fun y hy=>h y (List.mem_cons_of_mem _ hy),fJ,R.bind_ok,aCR,R.noEx_ok,R.bind_ok,if_pos rfl,h2];rfl
theorem mV{α:Type}{fs:PyData->Sg->Option Sg}{fb:Sg->R Fw}{d:α->PyData}{xs:List α}{ρ:Sg}(J:Nat->Sg->Prop)(h0:J 0 ρ)(hs:∀ (i:Nat) (x:α) (ρ:Sg),xs[i]? = some x->J i ρ->∃ ρ1 ρ2,fs (d x) ρ=some ρ1/\(fb ρ1=.ok (.nx ρ2)\/fb ρ1=.ok (.ct ρ2))/\J (i+1) ρ2) :
  ∃ ρ',i9 fs fb (xs.map d) ρ=.ok (.nx ρ')/\J xs.length ρ':=by
 induction xs generalizing ρ J with
 | nil=>exact ⟨ρ,rfl,h0⟩
 | cons x t ih=>
  obtain ⟨ρ1,ρ2,h1,h2,h3⟩:=hs 0 x ρ rfl h0
  obtain ⟨ρ',q1,q2⟩:=ih (ρ:=ρ2) (fun i=>J (i+1)) h3 (fun i y ρ hy hj=>hs (i+1) y ρ (by simpa using hy) hj)
  refine ⟨ρ',?_,q2⟩
  rw[List.map_cons]
  unfold i9
  rw[h1,fJ,R.bind_ok]
  rcases h2 with h2|h2<;>rw[h2]<;>exact q1
end Fl
namespace Fl
open PySem L2 PyProof.Rows
theorem xR{t:Sg->R Bool}{b:Sg->R Fw}{ρ ρ':Sg}(h1:t ρ=.ok true)(h2:b ρ=.ok (.nx ρ')):cV t b ρ=cV t b ρ':=by
 rw[qL,h1,R.bind_ok,if_pos rfl,h2];rfl
theorem xS{t:Sg->R Bool}{b:Sg->R Fw}{ρ:Sg}{a:A}(h1:t ρ=.ok true)(h2:b ρ=.ok (.rt a)):cV t b ρ=.ok (.rt a):=by
 rw[qL,h1,R.bind_ok,if_pos rfl,h2];rfl
theorem xT{t:Sg->R Bool}{b:Sg->R Fw}{ρ:Sg}(h1:t ρ=.ok false):cV t b ρ=.ok (.nx ρ):=by
 rw[qL,h1,R.bind_ok,if_neg (by decide)]
def been{α:Type}(d:α->PyData)(ps:List α):List (PyData×PyData):=ps.map fun p=>(d p,.bool true)
theorem xU{α:Type}(d:α->PyData)(ps:List α):(been d ps).map (·.1)=ps.map d:=by unfold been;rw[List.map_map];rfl
theorem tM{α:Type}{d:α->PyData}(hd:∀ a b,d a=d b->a=b){ps:List α}{p:α}:fX (been d ps) (d p)=true↔p∈ps:=by
 rw[aAJ,xU,List.mem_map]
 exact ⟨fun ⟨q,h1,h2⟩=>hd q p h2▸h1,fun h=>⟨p,h,rfl⟩⟩
theorem qX{α:Type}{d:α->PyData}(hd:∀ a b,d a=d b->a=b){ps:List α}{p:α}(h:p∉ps):fX (been d ps) (d p)=false:=by
 cases q:fX (been d ps) (d p) with
 | false=>rfl
 | true=>exact absurd ((tM hd).mp q) h
theorem pD{α:Type}{d:α->PyData}(hd:∀ a b,d a=d b->a=b){ps:List α}{p:α}(h:p∉ps):putM (been d ps) (d p) (.bool true)=been d (ps++[p]):=by
 unfold putM
 rw[qX hd h,if_neg (by decide)]
 unfold been
 rw[List.map_append];rfl
theorem gY{α:Type}{d:α->PyData}(hk:∀ a,v5 (d a)=true)(ps:List α)(p:α):eW (d p) ((been d ps).map (·.1))=true:=by
 unfold eW
 rw[xU,hk,Bool.true_and,Bool.or_eq_true,List.all_eq_true]
 refine .inl fun x hx=>?_
 obtain ⟨q,_,rfl⟩:=List.mem_map.mp hx
 exact hk q
theorem pE{α:Type}(d:α->PyData)(ps:List α):(been d ps).length=ps.length:=by unfold been;rw[List.length_map]
def prD(p:Int×Int):PyData:=.tuple [.int p.1,.int p.2]
theorem iW(a b:Int×Int)(h:prD a=prD b):a=b:=by
 unfold prD at h
 injection h with h
 injection h with h1 h2
 injection h2 with h2 _
 injection h1 with h1
 injection h2 with h2
 exact Prod.ext h1 h2
theorem j5(a:Int×Int):v5 (prD a)=true:=rfl
end Fl
namespace Mc
open PySem L2 PyProof.Rows Fl
theorem aK4{r:Rw}{rs:List Rw}:kF [.d (dL (r::rs))]=.ok (.d (.int r.c.length)):=by
 simp[kF,pB,dL,dZ]
theorem aIF{n:Nat}(h1:1<=n)(h3:n<=3)(z:Str):∀ (cs:List Nat) (k:Nat) (u3 u4:Option A),
  i9 (stT [stN 3,stN 4]) (sIf (e1 asB (e2 dNin (rV 4) (rV 2))) (uN "NoStrip" ["at"] (aB (eV 3) aO)) sNx) (jV k (cs.map fun u=>.str ⟨#[u]⟩)) [some (.d (.int n)),some (.d (.str z)),some (.d (.str (Txt.slice "abc" none (some (n:Int))))),u3,u4] =
  match lC n k cs with
  | some i=>.ex ⟨"NoStrip",[("at",.int i)]⟩
  | none=>.ok (.nx [some (.d (.int n)),some (.d (.str z)),some (.d (.str (Txt.slice "abc" none (some (n:Int))))),if cs=[] then u3 else some (.d (.int ((k+cs.length - 1:Nat):Int))),if cs=[] then u4 else (cs.getLast?.map fun u=>A.d (.str ⟨#[u]⟩))]):=by
 intro cs
 induction cs with
 | nil=>intro k u3 u4;rfl
 | cons c t ih=>
  intro k u3 u4
  have hin:dNin (.str ⟨#[c]⟩) (.str (Txt.slice "abc" none (some (n:Int))))=.ok (.bool (!eJ n c)):=by
   show R.ok (PyData.bool (!_))=_
   rw[aHH h1 h3]
  rw[List.map_cons,jV]
  unfold i9
  rw[uG]
  cases hs:eJ n c with
  | false=>simp[hin,hs]
  | true=>
   simp[hin,hs,ih]
   cases lC n (k+1) t with
   | some i=>rfl
   | none=>
    simp
    cases t with
    | nil=>simp
    | cons c' t'=>simp<;>try omega
theorem aO7{n:Nat}(h1:1<=n)(h3:n<=3){z:Str}(hz:z.cps.toList.length<=16777216):iL [.d (.int n),.d (.str z)]=match lC n 0 z.cps.toList with
  | some i=>.ex ⟨"NoStrip",[("at",.int i)]⟩
  | none=>.ok (.d (.str z)):=by
 have hs:dSl (.str "abc") none (some (n:Int))=.ok (.str (Txt.slice "abc" none (some (n:Int)))):=by
  show (if ("abc":Str).length<=16777216 then R.ok _ else .bad)=_
  exact if_pos (by decide)
 have hn:yX (.str z)=.ok (jV 0 (z.cps.toList.map fun u=>.str ⟨#[u]⟩)):=by
  show (if z.cps.toList.length<=16777216 then R.ok _ else .bad)=_
  exact if_pos hz
 simp only[iL,mS,d0,bR,cT,eB,aAZ,b9,aA0,aA1,R.bind_ok,bU,j4,cG,iG,List.map_cons,List.map_nil,List.cons_append,List.nil_append,List.length_cons,List.length_nil]
 simp only[List.replicate,List.getElem?_cons_zero,List.getElem?_cons_succ,hs,R.bind_ok,List.set_cons_succ,List.set_cons_zero,hn,aIF h1 h3]
 cases lC n 0 z.cps.toList with
 | some i=>rfl
 | none=>rfl
theorem Mach.cons{rs:List Rw}{sg:Nat}(M:Mach rs sg):∃ r t,rs=r::t/\r.c.length=sg:=by
 cases rs with
 | nil=>have:=M.len;simp at this
 | cons r t=>exact ⟨r,t,rfl,(M.row r List.mem_cons_self).2⟩
theorem aNJ{rs:List Rw}{sg:Nat}(M:Mach rs sg){z:Str}(hz:z.cps.toList.length<=16777216):iM [.d (dL rs),.d (.str z)]=match lC sg 0 z.cps.toList with
  | some i=>.ex ⟨"NoStrip",[("at",.int i)]⟩
  | none=>.ok (.d (.str z)):=by
 obtain ⟨r,t,rfl,hr⟩:=M.cons
 simp[iM,qR,aK4,hr,aO7 M.sg1 M.sg3 hz]
 cases lC sg 0 z.cps.toList<;>rfl
theorem aIG{rs:List Rw}{sg:Nat}(M:Mach rs sg){z:Str}(S:c7 sg z.cps.toList):iM [.d (dL rs),.d (.str z)]=.ok (.d (.str z)):=by
 rw[aNJ M (by have:=S.1;omega),zR S.2]
theorem lO{n:Nat}(h:n<=16777216):fF 0 (n:Int)=.ok ((List.range n).map fun i:Nat=>.int (i:Int)):=by
 unfold fF
 rw[if_pos (by omega)]
 unfold hU
 simp
theorem aF8(z y:Str):qM (.str z) (.str y)=match Builtin.Str.occurrences z y 0 z.length 1 with|i::_=>R.ok (PyData.int i)|[]=>.bad:=rfl
theorem aCT{c:Nat}(h:eJ 3 c=true):qM (.str "abc") (.str ⟨#[c]⟩)=.ok (.int ((c - 97:Nat):Int)):=by
 obtain ⟨r,e⟩:=aFI h
 rw[aF8,e]
theorem aA4{n c:Nat}(hn:n<=3)(h:eJ n c=true):eJ 3 c=true:=decide_eq_true (by have:=of_decide_eq_true h;omega)
end Mc
namespace Mc
open PySem L2 PyProof.Rows Fl
theorem n9(s:Int×Int):SeqAt.shaped (prD s)=true:=id rfl
theorem iX(i:Int):SeqAt.shaped (.int i)=true:=id rfl
theorem aF9(i j:Int):PyData.eqv (.int i) (.int j)=decide (i=j):=by
 rw[PyData.eqv.eq_5]
 by_cases h:i=j
 · simp [h]
 · simp [h]
theorem cY(i j:Int):dEq (.int i) (.int j)=.ok (.bool (decide (i=j))):=by rw[oK (iX i) (iX j),aF9]
end Mc
namespace Mc
open PySem L2 PyProof.Rows Fl
end Mc
namespace Mc
open PySem L2 PyProof.Rows Fl
noncomputable def lH:Sg->R Fw:=(aH (bB 2 (vD (eC (.int 0))))
 (aH (sIf (e1 asB (e2 dGt (e1 dLen (rV 0)) (eC (.int 0)))) (bB 2 (vD (e2 dIx (rV 0) (e2 dMod (rV 1) (e1 dLen (rV 0)))))) sNx)
 (aH (bB 3 (vD (e2 dMod (e2 dMul (e2 bM (e2 bM (e2 dMod (rV 2) (eC (.int 2147483647))) (e2 dMul (eC (.int 7919)) (rV 1))) (eC (.int 1))) (eC (.int 48271))) (eC (.int 2147483647)))))
 (bN (vD (e2 bM (e2 dMul (e2 dDiv (rV 2) (eC (.int 2147483647))) (eC (.int 2147483659))) (e2 dMod (e2 bM (e2 dMul (rV 3) (eC (.int 69621))) (e2 dMul (eC (.int 104729)) (rV 1))) (eC (.int 2147483659)))))))))
noncomputable def a8:List A->R A:=fnF 4 lH
noncomputable def l8:Sg->R Fw:=(aH (sIf (e1 asB (e2 dEq (e2 dMod (rV 0) (eC (.int 3))) (eC (.int 0)))) (bN (vD (e2 dIx (eL (eP (aB (eC (.str "by")) (aB (eC (.str "out")) aO)))) (e2 dMod (e2 dDiv (rV 0) (eC (.int 3))) (eC (.int 2)))))) sNx)
 (bN (vD (e2 dMod (e2 dDiv (rV 0) (eC (.int 3))) (rV 1)))))
noncomputable def gA:List A->R A:=fnF 2 l8
noncomputable def jX:Sg->R Fw:=(aH (bB 3 (vD (e2 dMod (rV 0) (e2 bM (rV 1) (eC (.int 2))))))
 (aH (bB 0 (vD (e2 dDiv (rV 0) (e2 bM (rV 1) (eC (.int 2))))))
 (aH (eH 4 (eP aO))
 (aH (jT (fB (rV 2)) (stN 5) (aH (g8 4 (cO (aB (e2 dMod (e2 dDiv (rV 0) (eC (.int 2))) (rV 1)) (aB (e2 dSub (eC (.int 1)) (e2 dMul (e2 dMod (rV 0) (eC (.int 2))) (eC (.int 2)))) aO))))
 (bB 0 (vD (e2 dDiv (rV 0) (e2 dMul (eC (.int 2)) (rV 1)))))))
 (aH (eH 6 (eP (aB (eV 3) (aB (e2 dMod (rV 0) (e2 bM (rV 1) (eC (.int 2)))) aO))))
 (aH (eH 6 (lF [none,some 1] (e1 eM (rV 6)) (stN 0) mQ (eIf (e1 asB (e2 dGe (rV 0) (rV 1))) (e2 dIx (eL (eP (aB (eC (.str "by")) (aB (eC (.str "out")) aO)))) (e2 dSub (rV 0) (rV 1))) (eV 0))))
 (bN (vD (cO (aB (e2 dIx (rV 6) (eC (.int 0))) (aB (e1 dTup (rV 4)) (aB (e2 dIx (rV 6) (eC (.int 1))) aO))))))))))))
noncomputable def eF:List A->R A:=fnF 7 jX
noncomputable def jY:Sg->R Fw:=(aH (eH 3 (eP aO))
 (aH (jT (fB (e2 bM (rV 2) (eC (.int 2)))) (stN 4) (aH (bB 0 (vD (e2 dMod (e2 bM (e2 dMul (rV 0) (eC (.int 48271))) (eC (.int 7919))) (eC (.int 2147483647)))))
 (g8 3 (e2 dDiv (rV 0) (eC (.int 64))))))
 (aH (bB 5 (vD (e1 dTup (eL (lF [none,some 1] (e1 eM (eSl dSl (rV 3) (oSo (eC (.int 2))) oNo)) (stN 0) mQ (cO (aB (e2 dMod (rV 0) (rV 1)) (aB (e2 dSub (eC (.int 1)) (e2 dMul (e2 dDiv (e2 dMod (e2 dDiv (rV 0) (eC (.int 64))) (eC (.int 3))) (eC (.int 2))) (eC (.int 2)))) aO))))))))
 (bN (vD (cO (aB (eA (bA 2 gA (aB (vD (e2 dIx (rV 3) (eC (.int 0)))) (aB (vV 1) aO)))) (aB (eV 5) (aB (eA (bA 2 gA (aB (vD (e2 dIx (rV 3) (eC (.int 1)))) (aB (vV 1) aO)))) aO)))))))))
noncomputable def dS:List A->R A:=fnF 6 jY
noncomputable def oM:Sg->R Fw:=(aH (eH 4 (eP aO))
 (aH (jT (fB (rV 2)) (stN 5) (sIf (gP (e1 asB (e2 dLt (e2 bM (rV 1) (rV 5)) (e1 dLen (rV 0)))) (e1 asB (e2 dEq (e2 dMod (e2 dIx (rV 0) (eC (.int 0))) (eC (.int 2))) (eC (.int 1))))) (g8 4 (eA (bA 3 eF (aB (vD (e2 dIx (rV 0) (e2 bM (rV 1) (rV 5)))) (aB (vV 2) (aB (vV 3) aO)))))) (aH (bB 6 (bA 3 dS (aB (vD (e2 dMod (eA (bA 2 a8 (aB (vV 0) (aB (vD (e2 bM (rV 1) (rV 5))) aO)))) (eC (.int 2147483647)))) (aB (vV 2) (aB (vV 3) aO)))))
 (aH (sIf (gP (e1 asB (e2 dEq (rV 5) (eC (.int 0)))) (gP (e1 asB (e1 (jB "str") (e2 dIx (rV 6) (eC (.int 0))))) (e1 asB (e2 dGt (e2 dMod (e2 dDiv (eA (bA 2 a8 (aB (vV 0) (aB (vV 1) aO)))) (eC (.int 8))) (eC (.int 8))) (eC (.int 0)))))) (bB 6 (vD (e2 bM (cO (aB (e2 dMod (e2 dDiv (eA (bA 2 a8 (aB (vV 0) (aB (vV 1) aO)))) (eC (.int 64))) (rV 2)) aO)) (eSl dSl (rV 6) (oSo (eC (.int 1))) oNo)))) sNx)
 (g8 4 (eV 6))))))
 (bN (vD (e1 dTup (rV 4))))))
noncomputable def k6:List A->R A:=fnF 7 oM
noncomputable def kI:Sg->R Fw:=(aH (sIf (gP (e1 asB (e2 dLt (rV 1) (e1 dLen (rV 0)))) (e1 asB (e2 dEq (e2 dMod (e2 dIx (rV 0) (eC (.int 0))) (eC (.int 2))) (eC (.int 1))))) (aH (bB 4 (vD (e2 dIx (rV 0) (rV 1))))
 (aH (bB 5 (vD (eC (.str ""))))
 (aH (jT (fB (rV 2)) (stN 6) (aH (bB 5 (vD (e2 bM (rV 5) (e2 dIx (eC (.str "abc")) (e2 dMod (rV 4) (rV 3))))))
 (bB 4 (vD (e2 dDiv (rV 4) (rV 3))))))
 (bN (vV 5))))) sNx)
 (bN (vD (e2 uQ (eC (.str "")) (eL (lF [none,some 0,some 1,some 3] (fB (rV 2)) (stN 0) mQ (e2 dIx (eC (.str "abc")) (e2 dMod (eA (bA 2 a8 (aB (vV 1) (aB (vD (e2 bM (rV 2) (rV 0))) aO)))) (rV 3)))))))))
noncomputable def iN:List A->R A:=fnF 7 kI
noncomputable def qY:Sg->R Fw:=(aH (bB 1 (vD (e2 bM (eC (.int 1)) (e2 dMod (eA (bA 2 a8 (aB (vV 0) (aB (vD (eC (.int 0))) aO)))) (eC (.int 5))))))
 (aH (bB 2 (vD (e2 bM (eC (.int 1)) (e2 dMod (eA (bA 2 a8 (aB (vV 0) (aB (vD (eC (.int 1))) aO)))) (eC (.int 3))))))
 (aH (bB 3 (vD (e2 dMod (eA (bA 2 a8 (aB (vV 0) (aB (vD (eC (.int 2))) aO)))) (e2 dIx (eL (eP (aB (eC (.int 8)) (aB (eC (.int 8)) (aB (eC (.int 25)) (aB (eC (.int 57)) aO)))))) (e2 dMod (e2 dDiv (eA (bA 2 a8 (aB (vV 0) (aB (vD (eC (.int 1))) aO)))) (eC (.int 3))) (eC (.int 4)))))))
 (bN (vD (cO (aB (eA (bA 4 k6 (aB (vV 0) (aB (vD (eC (.int 6))) (aB (vV 1) (aB (vV 2) aO)))))) (aB (eA (bA 4 iN (aB (vV 0) (aB (vD (eC (.int 11))) (aB (vV 3) (aB (vV 2) aO)))))) aO))))))))
noncomputable def mW:List A->R A:=fnF 4 qY
noncomputable def mX:Sg->R Fw:=(bN (vD (aAD (e1 (jB "bool") (rV 0)) (e2 dEq (rV 0) (rV 1)))))
noncomputable def gS:List A->R A:=fnF 2 mX
noncomputable def oA:Sg->R Fw:=(aH (qO (stT [(stN 3),(stN 4)]) (eV 2))
 (aH (qO (stT [(stN 5),(stN 6),(stN 7)]) (e2 dIx (rV 0) (rV 4)))
 (aH (sIf (bOr (e1 asB (e2 dEq (rV 3) (eC (.int 0)))) (e1 asB (e2 dGt (rV 3) (e1 dLen (rV 1))))) (aH (bB 8 (vD (e2 dIx (eL (eP (aB (eV 5) (aB (eV 7) aO)))) (e1 dInt (e2 dGt (rV 3) (eC (.int 0)))))))
 (aH (sIf (e1 asB (e1 (jB "str") (rV 8))) (bN (vD (eC .none))) sNx)
 (bN (vD (cO (aB (e2 dIx (eL (eP (aB (eC (.int 1)) (aB (e1 dLen (rV 1)) aO)))) (e1 dInt (e2 dGt (rV 3) (eC (.int 0))))) (aB (eV 8) aO))))))) sNx)
 (aH (qO (stT [(stN 8),(stN 9)]) (e2 dIx (rV 6) (e2 qM (eC (.str "abc")) (e2 dIx (rV 1) (e2 dSub (rV 3) (eC (.int 1)))))))
 (bN (vD (cO (aB (e2 bM (rV 3) (rV 9)) (aB (eV 8) aO)))))))))
noncomputable def fK:List A->R A:=fnF 10 oA
noncomputable def lU:Sg->R Fw:=(aH (eH 2 (eP (aB (cO (aB (eC (.int 0)) (aB (eC (.int 0)) aO))) aO)))
 (aH (rY 3)
 (aH (cV (e1 asB (tK true 3 (e2 dIx (rV 2) (e1 dNeg (eC (.int 1)))))) (aH (rZ 3 (e2 dIx (rV 2) (e1 dNeg (eC (.int 1)))) (eC (.bool true)))
 (aH (bB 4 (bA 3 fK (aB (vV 0) (aB (vV 1) (aB (vD (e2 dIx (rV 2) (e1 dNeg (eC (.int 1))))) aO)))))
 (aH (sIf (e1 asB (e2 dIs (rV 4) (eC .none))) (sFz 2 (bN (vV 2))) sNx)
 (g8 2 (eV 4))))))
 (sFz 2 (bN (vV 2))))))
noncomputable def dI:List A->R A:=fnF 5 lU
noncomputable def oB:Sg->R Fw:=(aH (qO (stT [(stN 2),(stN 3)]) (e2 dIx (eA (bA 2 dI (aB (vV 0) (aB (vV 1) aO)))) (e1 dNeg (eC (.int 1)))))
 (aH (sIf (e1 asB (e2 dIsnt (eA (bA 3 fK (aB (vV 0) (aB (vV 1) (aB (vD (cO (aB (eV 2) (aB (eV 3) aO)))) aO))))) (eC .none))) (bN (vD (eC (.str "ever")))) sNx)
 (bN (vD (e2 dIx (eL (eP (aB (e2 dIx (e2 dIx (rV 0) (rV 3)) (eC (.int 0))) (aB (e2 dIx (e2 dIx (rV 0) (rV 3)) (eC (.int 2))) aO)))) (e1 dInt (e2 dGt (rV 2) (eC (.int 0)))))))))
noncomputable def jK:List A->R A:=fnF 4 oB
noncomputable def lP:Sg->R Fw:=(aH (eH 4 (eP aO))
 (aH (jT (fB (rV 2)) (stN 5) (sIf (gP (e1 asB (e2 dLt (e2 bM (rV 1) (rV 5)) (e1 dLen (rV 0)))) (e1 asB (e2 dEq (e2 dMod (e2 dIx (rV 0) (eC (.int 0))) (eC (.int 2))) (eC (.int 1))))) (g8 4 (eA (bA 3 eF (aB (vD (e2 dIx (rV 0) (e2 bM (rV 1) (rV 5)))) (aB (vV 2) (aB (vV 3) aO)))))) (aH (bB 6 (bA 3 dS (aB (vD (e2 dMod (eA (bA 2 a8 (aB (vV 0) (aB (vD (e2 bM (rV 1) (rV 5))) aO)))) (eC (.int 2147483647)))) (aB (vV 2) (aB (vV 3) aO)))))
 (aH (sIf (gP (e1 asB (e2 dEq (rV 5) (eC (.int 0)))) (gP (e1 asB (e1 (jB "str") (e2 dIx (rV 6) (eC (.int 0))))) (e1 asB (e2 dGt (e2 dMod (e2 dDiv (eA (bA 2 a8 (aB (vV 0) (aB (vV 1) aO)))) (eC (.int 8))) (eC (.int 8))) (eC (.int 0)))))) (bB 6 (vD (e2 bM (cO (aB (e2 dMod (e2 dDiv (eA (bA 2 a8 (aB (vV 0) (aB (vV 1) aO)))) (eC (.int 64))) (rV 2)) aO)) (eSl dSl (rV 6) (oSo (eC (.int 1))) oNo)))) sNx)
 (g8 4 (eV 6))))))
 (bN (vD (e1 dTup (rV 4))))))
noncomputable def iO:List A->R A:=fnF 7 lP
noncomputable def mY:Sg->R Fw:=(aH (sIf (gP (e1 asB (e2 dLt (rV 1) (e1 dLen (rV 0)))) (e1 asB (e2 dEq (e2 dMod (e2 dIx (rV 0) (eC (.int 0))) (eC (.int 2))) (eC (.int 1))))) (aH (bB 4 (vD (e2 dIx (rV 0) (rV 1))))
 (aH (bB 5 (vD (eC (.str ""))))
 (aH (jT (fB (rV 2)) (stN 6) (aH (bB 5 (vD (e2 bM (rV 5) (e2 dIx (eC (.str "abc")) (e2 dMod (rV 4) (rV 3))))))
 (bB 4 (vD (e2 dDiv (rV 4) (rV 3))))))
 (bN (vV 5))))) sNx)
 (bN (vD (e2 uQ (eC (.str "")) (eL (lF [none,some 0,some 1,some 3] (fB (rV 2)) (stN 0) mQ (e2 dIx (eC (.str "abc")) (e2 dMod (eA (bA 2 a8 (aB (vV 1) (aB (vD (e2 bM (rV 2) (rV 0))) aO)))) (rV 3)))))))))
noncomputable def jZ:List A->R A:=fnF 7 mY
end Mc
namespace Mc
open PySem L2 PyProof.Rows Fl
def fR(ns:List Int):PyData:=.list (ns.map .int)
theorem j6(ns:List Int):dLen (fR ns)=.ok (.int ns.length):=by unfold fR;rw[gR,List.length_map]
theorem qZ{ns:List Int}{i:Int}(h0:0<=i)(h1:i < ns.length):∃ v,dIx (fR ns) (.int i)=.ok (.int v):=by
 refine ⟨ns[i.toNat]'(by omega),nR (kZ h0 ?_)⟩
 rw[List.getElem?_map,List.getElem?_eq_getElem (by omega)];rfl
theorem lQ(ns:List Int)(k:Int):∃ v,a8 [.d (fR ns),.d (.int k)]=.ok (.d (.int v)):=by
 by_cases h:(0:Int) < ns.length
 ·obtain ⟨v,hv⟩:=qZ (ns:=ns) (i:=k % (ns.length:Int)) (Int.emod_nonneg _ (by omega)) (Int.emod_lt_of_pos _ h)
  have hm:dMod (.int k) (.int (ns.length:Int))=.ok (.int (k % (ns.length:Int))):=cE h
  have hd:0 < ns.length:=by omega
  refine ⟨v / 2147483647 * 2147483659+((v % 2147483647+7919 * k+1) * 48271 % 2147483647 * 69621+104729 * k) % 2147483659,?_⟩
  unfold a8 lH
  simp[j6,hd,hm,hv,cE,qV,uS,eZ]
 ·have hd:¬ 0 < ns.length:=by omega
  refine ⟨((7919 * k+1) * 48271 % 2147483647 * 69621+104729 * k) % 2147483659,?_⟩
  unfold a8 lH
  simp[j6,hd,cE,qV,uS,eZ]
theorem aNK(x y:PyData)(i:Int):∃ z,dIx (.list [x,y]) (.int (i % 2))=.ok z/\(z=x\/z=y):=by
 rcases Int.emod_two_eq i with h|h
 · rw [h]; exact ⟨x, aNE _ _, .inl rfl⟩
 · rw [h]; exact ⟨y, aNF _ _ _, .inr rfl⟩
theorem aJI(x:Int){n:Int}(hn:0 < n):∃ t:Tn,gA [.d (.int x),.d (.int n)]=.ok (.d t.d)/\t.good n:=by
 by_cases h:x % 3=0
 ·obtain ⟨z,hz,hzz⟩:=aNK (.str "by") (.str "out") (x / 3)
  have hd:decide (x % 3=0)=true:=decide_eq_true h
  have e:gA [.d (.int x),.d (.int n)]=.ok (.d z):=by
   unfold gA l8
   simp[cE,eZ,cY,hd,hz]
  rcases hzz with rfl|rfl
  ·exact ⟨.w "by",e,.inl rfl⟩
  ·exact ⟨.w "out",e,.inr rfl⟩
 ·have hd:decide (x % 3=0)=false:=decide_eq_false h
  refine ⟨.n (x / 3 % n),?_,Int.emod_nonneg _ (by omega),Int.emod_lt_of_pos _ hn⟩
  unfold gA l8
  simp[cE,eZ,cY,hd,hn]
  rfl
theorem uT{n:Nat}(h:n<=16777216):fF 0 (n:Int)=.ok ((List.range n).map fun i:Nat=>.int (i:Int)):=lO h
theorem aCU(x:Int){n:Int}{sg:Nat}(hn:0 < n)(hs:sg<=1000):∃ r:Rw,dS [.d (.int x),.d (.int n),.d (.int sg)]=.ok (.d (dZ r))/\r.good n/\r.c.length=sg:=by
 have hr:fF 0 ((sg:Int)+2)=.ok ((List.range (sg+2)).map fun i:Nat=>.int (i:Int)):=by
  have:=lO (n:=sg+2) (by omega)
  rw[show (((sg+2:Nat)):Int)=(sg:Int)+2 by omega] at this
  exact this
 obtain ⟨ρ',hf,y,ps,u4,hp,rfl⟩:=mV (fs:=stN 4) (fb:=aH (bB 0 (vD (e2 dMod (e2 bM (e2 dMul (rV 0) (eC (.int 48271))) (eC (.int 7919))) (eC (.int 2147483647))))) (g8 3 (e2 dDiv (rV 0) (eC (.int 64)))))
  (d:=fun i:Nat=>.int (i:Int)) (xs:=List.range (sg+2)) (ρ:=[some (.d (.int x)),some (.d (.int n)),some (.d (.int sg)),some (.l []),none,none])
  (fun i ρ=>∃ (y:Int) (ps:List Int) (u4:Option A),ps.length=i/\ρ=[some (.d (.int y)),some (.d (.int n)),some (.d (.int sg)),some (.l (ps.map .int)),u4,none]) ⟨x,[],none,rfl,rfl⟩
  (fun i k ρ hk hρ=>by
   obtain ⟨y,ps,u4,hp,rfl⟩:=hρ
   have hi:i < sg+2:=by have:=(List.getElem?_eq_some_iff.mp hk).1;simpa using this
   refine ⟨_,_,rfl,.inl ?_,(y * 48271+7919) % 2147483647,ps++[(y * 48271+7919) % 2147483647 / 64],some (.d (.int k)),by simp[hp],rfl⟩
   have hl:(ps.map PyData.int).length < 16777216:=by rw[List.length_map,hp];omega
   simp[qV,uS,cE,eZ,hl]
   omega)
 rw[List.length_range] at hp
 obtain ⟨p0,p1,qs,rfl,hq⟩:∃ p0 p1 qs,ps=p0::p1::qs/\qs.length=sg:=by
  match ps,hp with
  | p0::p1::qs,hp=>exact ⟨p0,p1,qs,rfl,by simpa using hp⟩
 have hcut:dSl (.list ((p0::p1::qs).map .int)) (some 2) none=.ok (.list (qs.map .int)):=by
  show R.ok (PyData.list (jA _ _ _))=_
  unfold jA HT.sIx
  simp
  rw[List.take_of_length_le (by simp)]
 obtain ⟨t0,e0,g0⟩:=aJI p0 hn
 obtain ⟨t1,e1',g1⟩:=aJI p1 hn
 have hc:=pC (fs:=stN 0) (fe:=cO (aB (e2 dMod (rV 0) (rV 1)) (aB (e2 dSub (eC (.int 1)) (e2 dMul (e2 dDiv (e2 dMod (e2 dDiv (rV 0) (eC (.int 64))) (eC (.int 3))) (eC (.int 2))) (eC (.int 2)))) aO))) (ρ0:=[none,some (.d (.int n))]) (d:=PyData.int) (g:=fun q=>iE (q % n,1 - q / 64 % 3 / 2 * 2)) (xs:=qs) fun q _=>⟨_,rfl,by simp[cE,eZ,qV,hn,iE]⟩
 have hi:eM (.list (qs.map .int))=.ok (qs.map .int):=mU (by rw[List.length_map];omega)
 refine ⟨⟨t0,qs.map fun q=>(q % n,1 - q / 64 % 3 / 2 * 2),t1⟩,?_,⟨g0,g1,fun c hc=>?_⟩,by simpa using hq⟩
 ·unfold dS jY
  simp only[d0,List.map_cons,List.map_nil,List.cons_append,List.nil_append,List.length_cons,List.length_nil,List.replicate,bR,fQ,iT,cH,R.bind_ok]
  simp[hr]
  rw[hf]
  simp at hcut hi hc
  simp[hcut,hi,mP,hc,e0,e1',dZ]
 ·obtain ⟨q,_,rfl⟩:=List.mem_map.mp hc
  refine ⟨Int.emod_nonneg _ (by omega),Int.emod_lt_of_pos _ hn,?_⟩
  simp only
  omega
end Mc
namespace Mc
open PySem L2 PyProof.Rows Fl
theorem aK5(x:Int){n:Int}{sg:Nat}(hn:0 < n)(hn2:n<=1000)(hs:sg<=1000):∃ r:Rw,eF [.d (.int x),.d (.int n),.d (.int sg)]=.ok (.d (dZ r))/\r.good n/\r.c.length=sg:=by
 have hr:=lO (n:=sg) (by omega)
 have hn3:(0:Int) < n+2:=by omega
 have hn4:n+2 < 18446744073709551616:=by omega
 have h2n:(0:Int) < 2 * n:=by omega
 have h2n':2 * n < 18446744073709551616:=by omega
 obtain ⟨ρ',hf,y,cs,u5,hp,hg,rfl⟩:=mV (fs:=stN 5) (fb:=aH (g8 4 (cO (aB (e2 dMod (e2 dDiv (rV 0) (eC (.int 2))) (rV 1)) (aB (e2 dSub (eC (.int 1)) (e2 dMul (e2 dMod (rV 0) (eC (.int 2))) (eC (.int 2)))) aO)))) (bB 0 (vD (e2 dDiv (rV 0) (e2 dMul (eC (.int 2)) (rV 1))))))
  (d:=fun i:Nat=>.int (i:Int)) (xs:=List.range sg) (ρ:=[some (.d (.int (x / (n+2)))),some (.d (.int n)),some (.d (.int sg)),some (.d (.int (x % (n+2)))),some (.l []),none,none])
  (fun i ρ=>∃ (y:Int) (cs:List (Int×Int)) (u5:Option A),cs.length=i/\(∀ c∈cs,tE n c)/\ρ=[some (.d (.int y)),some (.d (.int n)),some (.d (.int sg)),some (.d (.int (x % (n+2)))),some (.l (cs.map iE)),u5,none]) ⟨x / (n+2),[],none,rfl,fun c hc=>by simp at hc,rfl⟩
  (fun i k ρ hk hρ=>by
   obtain ⟨y,cs,u5,hp,hg,rfl⟩:=hρ
   have hi:i < sg:=by have:=(List.getElem?_eq_some_iff.mp hk).1;simpa using this
   have hl:(cs.map iE).length < 16777216:=by rw[List.length_map,hp];omega
   refine ⟨_,_,rfl,.inl ?_,y / (2 * n),cs++[(y / 2 % n,1 - y % 2 * 2)],some (.d (.int k)),by simp[hp],fun c hc=>?_,rfl⟩
   ·have hl':cs.length < 16777216:=by omega
    simp[qV,uS,cE,eZ,hn,h2n,h2n',iE,hl']
   ·rcases List.mem_append.mp hc with z|z
    ·exact hg c z
    ·rw[List.mem_singleton.mp z]
     refine ⟨Int.emod_nonneg _ (by omega),Int.emod_lt_of_pos _ hn,?_⟩
     simp only;omega)
 rw[List.length_range] at hp
 have key:∀ e:Int,0<=e->e < n+2->∃ t:Tn,(eIf (e1 asB (e2 dGe (rV 0) (rV 1))) (e2 dIx (eL (eP (aB (eC (.str "by")) (aB (eC (.str "out")) aO)))) (e2 dSub (rV 0) (rV 1))) (eV 0)) [some (.d (.int e)),some (.d (.int n))]=.ok t.d/\t.good n:=fun e h0 h1=>by
  by_cases h:n<=e
  ·obtain rfl|rfl:e=n\/e=n+1:=by omega
   ·exact ⟨.w "by",by simp[Tn.d],.inl rfl⟩
   ·exact ⟨.w "out",by simp[Tn.d,show n+1 - n=1 by omega,show n<=n+1 by omega],.inr rfl⟩
  ·exact ⟨.n e,by simp[Tn.d,h],h0,by omega⟩
 obtain ⟨t0,e0,g0⟩:=key (x % (n+2)) (Int.emod_nonneg _ (by omega)) (Int.emod_lt_of_pos _ hn3)
 obtain ⟨t1,e1',g1⟩:=key (y % (n+2)) (Int.emod_nonneg _ (by omega)) (Int.emod_lt_of_pos _ hn3)
 have hc:compL (stN 0) mQ (eIf (e1 asB (e2 dGe (rV 0) (rV 1))) (e2 dIx (eL (eP (aB (eC (.str "by")) (aB (eC (.str "out")) aO)))) (e2 dSub (rV 0) (rV 1))) (eV 0)) [none,some (.d (.int n))] [.int (x % (n+2)),.int (y % (n+2))]=.ok [t0.d,t1.d]:=by
  simp only[compL,kH,List.set_cons_zero,fJ,R.bind_ok,aCR,R.noEx_ok,if_true,e0,e1']
 have hi:∀ a b:PyData,eM (.list [a,b])=.ok [a,b]:=fun a b=>mU (by simp)
 refine ⟨⟨t0,cs,t1⟩,?_,⟨g0,g1,hg⟩,hp⟩
 unfold eF jX
 simp only[d0,List.map_cons,List.map_nil,List.cons_append,List.nil_append,List.length_cons,List.length_nil,List.replicate,bR,cT,eB,cB,bU,b9,List.getElem?_cons_zero,List.getElem?_cons_succ,R.bind_ok,f9,cE hn3,eZ hn3 hn4,List.set_cons_zero,List.set_cons_succ,fQ,iT,cH,j4,iV,hr]
 simp only[Nat.zero_le,if_true,R.bind_ok,List.set_cons_zero,List.set_cons_succ,List.getElem?_cons_zero,List.getElem?_cons_succ,hr,hf]
 simp only[cF,iG,cH,cB,bU,b9,List.getElem?_cons_zero,List.getElem?_cons_succ,R.bind_ok,f9,cE hn3,aAX,cG,List.set_cons_zero,List.set_cons_succ]
 simp[hi,mP,hc,dZ,cE hn3]
theorem aNL{ns:List Int}{at':Int}{n sg:Nat}(hat:0<=at')(h1:1<=n)(h2:n<=1000)(s1:1<=sg)(s3:sg<=3):∃ rs:List Rw,k6 [.d (fR ns),.d (.int at'),.d (.int n),.d (.int sg)]=.ok (.d (dL rs))/\Mach rs sg/\rs.length=n:=by
 have hr:=lO (n:=n) (by omega)
 have hn:(0:Int) < (n:Int):=by omega
 obtain ⟨ρ',hf,rs,u5,u6,hp,hg,rfl⟩:=mV (fs:=stN 5) (fb:=(sIf (gP (e1 asB (e2 dLt (e2 bM (rV 1) (rV 5)) (e1 dLen (rV 0)))) (e1 asB (e2 dEq (e2 dMod (e2 dIx (rV 0) (eC (.int 0))) (eC (.int 2))) (eC (.int 1))))) (g8 4 (eA (bA 3 eF (aB (vD (e2 dIx (rV 0) (e2 bM (rV 1) (rV 5)))) (aB (vV 2) (aB (vV 3) aO)))))) (aH (bB 6 (bA 3 dS (aB (vD (e2 dMod (eA (bA 2 a8 (aB (vV 0) (aB (vD (e2 bM (rV 1) (rV 5))) aO)))) (eC (.int 2147483647)))) (aB (vV 2) (aB (vV 3) aO)))))
 (aH (sIf (gP (e1 asB (e2 dEq (rV 5) (eC (.int 0)))) (gP (e1 asB (e1 (jB "str") (e2 dIx (rV 6) (eC (.int 0))))) (e1 asB (e2 dGt (e2 dMod (e2 dDiv (eA (bA 2 a8 (aB (vV 0) (aB (vV 1) aO)))) (eC (.int 8))) (eC (.int 8))) (eC (.int 0)))))) (bB 6 (vD (e2 bM (cO (aB (e2 dMod (e2 dDiv (eA (bA 2 a8 (aB (vV 0) (aB (vV 1) aO)))) (eC (.int 64))) (rV 2)) aO)) (eSl dSl (rV 6) (oSo (eC (.int 1))) oNo)))) sNx)
 (g8 4 (eV 6))))))
  (d:=fun i:Nat=>.int (i:Int)) (xs:=List.range n) (ρ:=[some (.d (fR ns)),some (.d (.int at')),some (.d (.int n)),some (.d (.int sg)),some (.l []),none,none])
  (fun i ρ=>∃ (rs:List Rw) (u5 u6:Option A),rs.length=i/\(∀ r∈rs,r.good n/\r.c.length=sg)/\ρ=[some (.d (fR ns)),some (.d (.int at')),some (.d (.int n)),some (.d (.int sg)),some (.l (rs.map dZ)),u5,u6]) ⟨[],none,none,rfl,fun c hc=>by simp at hc,rfl⟩
  (fun i k ρ hk hρ=>by
   obtain ⟨rs,u5,u6,hp,hg,rfl⟩:=hρ
   have hi:i < n:=by have:=(List.getElem?_eq_some_iff.mp hk).1;simpa using this
   have hl:rs.length < 16777216:=by omega
   have snoc:∀ r:Rw,r.good n/\r.c.length=sg->∀ x∈rs++[r],x.good n/\x.c.length=sg:=fun r hr x hx=>by
    rcases List.mem_append.mp hx with z|z
    ·exact hg x z
    ·rw[List.mem_singleton.mp z];exact hr
   obtain ⟨v,hv⟩:=lQ ns (at'+k)
   obtain ⟨r,hr,gr⟩:=aCU (v % 2147483647) (n:=(n:Int)) (sg:=sg) hn (by omega)
   obtain ⟨v2,hv2⟩:=lQ ns at'
   have hsl:∀ r:Rw,dSl (dZ r) (some 1) none=.ok (.tuple [.tuple (r.c.map iE),r.r.d]):=fun r=>by
    unfold dZ
    rw[aO5 (by unfold HT.sIx;simp)]
    unfold jA HT.sIx
    simp
   have put:∀ (u5 u6:Option A) (r:Rw),(g8 4 (eV 6)) [some (.d (fR ns)),some (.d (.int at')),some (.d (.int n)),some (.d (.int sg)),some (.l (rs.map dZ)),u5,some (.d (dZ r))]=.ok (.nx [some (.d (fR ns)),some (.d (.int at')),some (.d (.int n)),some (.d (.int sg)),some (.l ((rs++[r]).map dZ)),u5,some (.d (dZ r))]):=fun u5 u6 r=>by simp[hl]
   have mixed:∀ ρ2,ρ2=[some (.d (fR ns)),some (.d (.int at')),some (.d (.int n)),some (.d (.int sg)),some (.l (rs.map dZ)),some (.d (.int k)),u6]->∃ r2:Rw,(r2.good n/\r2.c.length=sg)/\∃ u6',(aH (bB 6 (bA 3 dS (aB (vD (e2 dMod (eA (bA 2 a8 (aB (vV 0) (aB (vD (e2 bM (rV 1) (rV 5))) aO)))) (eC (.int 2147483647)))) (aB (vV 2) (aB (vV 3) aO)))))
     (aH (sIf (gP (e1 asB (e2 dEq (rV 5) (eC (.int 0)))) (gP (e1 asB (e1 (jB "str") (e2 dIx (rV 6) (eC (.int 0))))) (e1 asB (e2 dGt (e2 dMod (e2 dDiv (eA (bA 2 a8 (aB (vV 0) (aB (vV 1) aO)))) (eC (.int 8))) (eC (.int 8))) (eC (.int 0)))))) (bB 6 (vD (e2 bM (cO (aB (e2 dMod (e2 dDiv (eA (bA 2 a8 (aB (vV 0) (aB (vV 1) aO)))) (eC (.int 64))) (rV 2)) aO)) (eSl dSl (rV 6) (oSo (eC (.int 1))) oNo)))) sNx)
     (g8 4 (eV 6)))) ρ2=.ok (.nx [some (.d (fR ns)),some (.d (.int at')),some (.d (.int n)),some (.d (.int sg)),some (.l ((rs++[r2]).map dZ)),some (.d (.int k)),u6']):=by
    rintro ρ2 rfl
    by_cases c1:k=0
    case neg=>
     exact ⟨r,gr,some (.d (dZ r)),by simp[hv,cE,hr,c1,cY,hl]⟩
    subst c1
    obtain ⟨r,hr,gr⟩:=aCU (v2 % 2147483647) (n:=(n:Int)) (sg:=sg) hn (by omega)
    have hix:dIx (dZ r) (.int 0)=.ok r.l.d:=aF7 _ _
    have hty:∃ b,jB "str" r.l.d=.ok (.bool b):=by cases r.l<;>exact ⟨_,rfl⟩
    obtain ⟨b,hb⟩:=hty
    have hadd:bM (.tuple [.int (v2 / 64 % (n:Int))]) (.tuple [.tuple (r.c.map iE),r.r.d])=.ok (dZ ⟨.n (v2 / 64 % (n:Int)),r.c,r.r⟩):=by
     rw[aNH rfl (by simp)];rfl
    have good2:(⟨.n (v2 / 64 % (n:Int)),r.c,r.r⟩:Rw).good n/\r.c.length=sg:=⟨⟨⟨Int.emod_nonneg _ (by omega),Int.emod_lt_of_pos _ hn⟩,gr.1.2.1,gr.1.2.2⟩,gr.2⟩
    cases hbb:b with
    | false=>
     subst hbb
     exact ⟨r,gr,some (.d (dZ r)),by simp[hv2,cE,hr,cY,hix,hb,hl]⟩
    | true=>
     subst hbb
     by_cases c3:0 < v2 / 8 % 8
     ·refine ⟨⟨.n (v2 / 64 % (n:Int)),r.c,r.r⟩,good2,some (.d (dZ ⟨.n (v2 / 64 % (n:Int)),r.c,r.r⟩)),?_⟩
      simp[hv2,cE,cE hn,hr,cY,hix,hb,hl,eZ,c3,hsl,hadd]
     ·exact ⟨r,gr,some (.d (dZ r)),by simp[hv2,cE,hr,cY,hix,hb,hl,eZ,c3]⟩
   obtain ⟨r2,g2,u6',hm⟩:=mixed _ rfl
   by_cases c1:at'+(k:Int) < (ns.length:Int)
   ·obtain ⟨w0,hw0⟩:=qZ (ns:=ns) (i:=0) (Int.le_refl _) (by omega)
    by_cases c2:w0 % 2=1
    ·obtain ⟨w1,hw1⟩:=qZ (ns:=ns) (i:=at'+k) (by omega) c1
     obtain ⟨r3,hr3,g3⟩:=aK5 w1 (n:=(n:Int)) (sg:=sg) hn (by omega) (by omega)
     refine ⟨_,_,rfl,.inl ?_,rs++[r3],some (.d (.int k)),u6,by simp[hp],snoc r3 g3,rfl⟩
     simp[j6,c1,hw0,cE,c2,cY,hw1,hr3,hl]
    ·refine ⟨_,_,rfl,.inl ?_,rs++[r2],some (.d (.int k)),u6',by simp[hp],snoc r2 g2,rfl⟩
     rw[<-hm]
     simp only[kH,List.set_cons_succ,List.set_cons_zero]
     rw[cW]
     simp only[iU,cG,cB,bU,b9,List.getElem?_cons_zero,List.getElem?_cons_succ,R.bind_ok,f9,j6,nQ,cX,c1,decide_true,if_true,hw0,cE (show (0:Int) < 2 by decide),cY,c2,decide_false,Bool.false_eq_true,if_false]
   ·refine ⟨_,_,rfl,.inl ?_,rs++[r2],some (.d (.int k)),u6',by simp[hp],snoc r2 g2,rfl⟩
    rw[<-hm]
    simp only[kH,List.set_cons_succ,List.set_cons_zero]
    rw[cW]
    simp only[iU,cG,cB,bU,b9,List.getElem?_cons_zero,List.getElem?_cons_succ,R.bind_ok,f9,j6,nQ,cX,c1,decide_false,Bool.false_eq_true,if_false])
 rw[List.length_range] at hp
 refine ⟨rs,?_,⟨by omega,by omega,s1,s3,fun r hr=>by rw[hp];exact hg r hr⟩,hp⟩
 unfold k6 oM
 simp only[d0,List.map_cons,List.map_nil,List.cons_append,List.nil_append,List.length_cons,List.length_nil,List.replicate,bR,fQ,iT,cH,R.bind_ok,Nat.zero_le,if_true,List.set_cons_zero,List.set_cons_succ,j4,iV,bU,List.getElem?_cons_zero,List.getElem?_cons_succ,hr,hf]
 simp[dL]
theorem sS(x y:Str):(x++y).cps.toList=x.cps.toList++y.cps.toList:=by
 show (x.cps++y.cps).toList=_
 rw[Array.toList_append]
theorem aK6{ns:List Int}{at':Int}{m sg:Nat}(hat:0<=at')(hm:m<=1000)(s1:1<=sg)(s3:sg<=3):∃ z:Str,iN [.d (fR ns),.d (.int at'),.d (.int m),.d (.int sg)]=.ok (.d (.str z))/\c7 sg z.cps.toList/\z.cps.toList.length=m:=by
 have hr:=lO (n:=m) (by omega)
 have hn:(0:Int) < (sg:Int):=by omega
 have abc:∀ y:Int,∃ c,dIx (.str "abc") (.int (y % (sg:Int)))=.ok (.str ⟨#[c]⟩)/\eJ sg c=true:=fun y=>by
  obtain ⟨c,h1,h2⟩:=aKH (k:=y) s1 s3
  exact ⟨c,aD9 (by decide) h1,h2⟩
 have two:∃ z:Str,(bN (vD (e2 uQ (eC (.str "")) (eL (lF [none,some 0,some 1,some 3] (fB (rV 2)) (stN 0) mQ (e2 dIx (eC (.str "abc")) (e2 dMod (eA (bA 2 a8 (aB (vV 1) (aB (vD (e2 bM (rV 2) (rV 0))) aO)))) (rV 3)))))))) [some (.d (fR ns)),some (.d (.int at')),some (.d (.int m)),some (.d (.int sg)),none,none,none]=.ok (.rt (.d (.str z)))/\c7 sg z.cps.toList/\z.cps.toList.length=m:=by
  have hc:∀ i:Nat,∃ c,(e2 dIx (eC (.str "abc")) (e2 dMod (eA (bA 2 a8 (aB (vV 1) (aB (vD (e2 bM (rV 2) (rV 0))) aO)))) (rV 3))) [some (.d (.int i)),some (.d (fR ns)),some (.d (.int at')),some (.d (.int sg))]=.ok (.str ⟨#[c]⟩)/\eJ sg c=true:=fun i=>by
   obtain ⟨v,hv⟩:=lQ ns (at'+i)
   obtain ⟨c,h1,h2⟩:=abc v
   exact ⟨c,by simp[hv,cE hn,h1],h2⟩
  have hx:=Classical.skolem.mp hc
  obtain ⟨f,hf⟩:=hx
  have h1:=pC (fs:=stN 0) (fe:=e2 dIx (eC (.str "abc")) (e2 dMod (eA (bA 2 a8 (aB (vV 1) (aB (vD (e2 bM (rV 2) (rV 0))) aO)))) (rV 3))) (ρ0:=[none,some (.d (fR ns)),some (.d (.int at')),some (.d (.int sg))]) (d:=fun i:Nat=>.int (i:Int)) (g:=fun i:Nat=>.str ⟨#[f i]⟩) (xs:=List.range m) fun i _=>⟨_,rfl,(hf i).1⟩
  have hst:pA ((List.range m).map fun i:Nat=>PyData.str ⟨#[f i]⟩)=some (((List.range m).map f).map one):=by
   rw[List.map_map]
   generalize List.range m=l
   induction l with
   | nil=>rfl
   | cons a t ih=>simp only[List.map_cons,pA,ih];rfl
  have hj:uQ (.str "") (.list ((List.range m).map fun i:Nat=>.str ⟨#[f i]⟩))=.ok (.str ⟨((List.range m).map f).toArray⟩):=by
   show (match pA ((List.range m).map fun i:Nat=>PyData.str ⟨#[f i]⟩) with|some ys=>if _ then R.ok _ else .bad|none=>.bad)=_
   rw[hst]
   simp only
   rw[if_pos (by rw[aKE,List.length_map,List.length_map,List.length_range];show m+m * 0<=_;omega),aKG]
  refine ⟨⟨((List.range m).map f).toArray⟩,?_,⟨by simp;omega,fun c hc=>?_⟩,by simp⟩
  ·simp[hr,mP,h1,hj]
  ·simp at hc
   obtain ⟨i,_,rfl⟩:=hc
   exact (hf i).2
 obtain ⟨z2,hz2,S2,l2⟩:=two
 by_cases c1:at' < (ns.length:Int)
 ·obtain ⟨w0,hw0⟩:=qZ (ns:=ns) (i:=0) (Int.le_refl _) (by omega)
  by_cases c2:w0 % 2=1
  ·obtain ⟨w1,hw1⟩:=qZ (ns:=ns) (i:=at') hat c1
   obtain ⟨ρ',hf,y,z,u6,hp,hg,rfl⟩:=mV (fs:=stN 6) (fb:=aH (bB 5 (vD (e2 bM (rV 5) (e2 dIx (eC (.str "abc")) (e2 dMod (rV 4) (rV 3)))))) (bB 4 (vD (e2 dDiv (rV 4) (rV 3)))))
    (d:=fun i:Nat=>.int (i:Int)) (xs:=List.range m) (ρ:=[some (.d (fR ns)),some (.d (.int at')),some (.d (.int m)),some (.d (.int sg)),some (.d (.int w1)),some (.d (.str "")),none])
    (fun i ρ=>∃ (y:Int) (z:Str) (u6:Option A),z.cps.toList.length=i/\(∀ c∈z.cps.toList,eJ sg c=true)/\ρ=[some (.d (fR ns)),some (.d (.int at')),some (.d (.int m)),some (.d (.int sg)),some (.d (.int y)),some (.d (.str z)),u6]) ⟨w1,"",none,rfl,fun c hc=>(nomatch (show c∈([]:List Nat) from hc)),rfl⟩
    (fun i k ρ hk hρ=>by
     obtain ⟨y,z,u6,hp,hg,rfl⟩:=hρ
     have hi:i < m:=by have:=(List.getElem?_eq_some_iff.mp hk).1;simpa using this
     obtain ⟨c,h1,h2⟩:=abc y
     have hadd:bM (.str z) (.str ⟨#[c]⟩)=.ok (.str (z++⟨#[c]⟩)):=aNI (by
      have:z.length=z.cps.toList.length:=by simp[Str.length]
      show z.length+1<=_
      omega)
     refine ⟨_,_,rfl,.inl ?_,y / sg,z++⟨#[c]⟩,some (.d (.int k)),by rw[sS,List.length_append,hp];rfl,fun x hx=>?_,rfl⟩
     ·simp[cE hn,h1,hadd,eZ hn (show (sg:Int) < 18446744073709551616 by omega)]
     ·rw[sS] at hx
      rcases List.mem_append.mp hx with q|q
      ·exact hg x q
      ·have:x=c:=by simpa using q
       rw[this];exact h2)
   rw[List.length_range] at hp
   refine ⟨z,?_,⟨by omega,hg⟩,hp⟩
   unfold iN kI
   simp only[d0,List.map_cons,List.map_nil,List.cons_append,List.nil_append,List.length_cons,List.length_nil,List.replicate,bR,cW,iU,cG,cB,bU,b9,List.getElem?_cons_zero,List.getElem?_cons_succ,R.bind_ok,j6,nQ,cX,c1,decide_true,if_true,hw0,cE (show (0:Int) < 2 by decide),cY,c2,cT,eB,hw1,List.set_cons_zero,List.set_cons_succ,j4,iV,hr,hf,fM,gL]
  ·refine ⟨z2,?_,S2,l2⟩
   unfold iN kI
   simp only[d0,List.map_cons,List.map_nil,List.cons_append,List.nil_append,List.length_cons,List.length_nil,List.replicate]
   rw[bR,cW]
   simp only[iU,cG,cB,bU,b9,List.getElem?_cons_zero,List.getElem?_cons_succ,R.bind_ok,j6,nQ,cX,c1,decide_true,if_true,hw0,cE (show (0:Int) < 2 by decide),cY,c2,decide_false,Bool.false_eq_true,if_false,f8]
   rw[hz2];rfl
 ·refine ⟨z2,?_,S2,l2⟩
  unfold iN kI
  simp only[d0,List.map_cons,List.map_nil,List.cons_append,List.nil_append,List.length_cons,List.length_nil,List.replicate]
  rw[bR,cW]
  simp only[iU,cG,cB,bU,b9,List.getElem?_cons_zero,List.getElem?_cons_succ,R.bind_ok,j6,nQ,cX,c1,decide_false,Bool.false_eq_true,if_false,f8]
  rw[hz2];rfl
end Mc
namespace Mc
open PySem L2 PyProof.Rows Fl
end Mc
namespace Mc
open PySem L2 PyProof.Rows
def lR(rs:List Rw)(z:List Nat)(s:Int×Int):Option ((Int×Int)⊕Str):=
 match (b6 rs z s).1 with
 | .w x=>some (.inr x)
 | .n q=>some (.inl (s.1+(b6 rs z s).2,q))
theorem walk_step{rs:List Rw}{z:List Nat}{s:Int×Int}:(∃ x,cP rs z s=none/\(b6 rs z s).1=.w x/\lR rs z s=some (.inr x))\/∃ s',cP rs z s=some s'/\lR rs z s=some (.inl s'):=by
 unfold cP lR
 cases (b6 rs z s).1 with
 | w x=>exact .inl ⟨x,rfl,rfl,rfl⟩
 | n q=>exact .inr ⟨_,rfl,rfl⟩
end Mc
namespace Mc
open PySem L2 PyProof.Rows Fl
theorem aGA:jU "int" "str"=false:=by decide
theorem aGB:jU "str" "str"=true:=by decide
theorem aA5{rs:List Rw}{q:Int}(h0:0<=q)(h1:q < (rs.length:Int)):dIx (dL rs) (.int q)=.ok (dZ (dQ rs q)):=sB (kZ h0 (by rw[List.getElem?_map,nK h0 h1];rfl))
def mZ:Option (Int×Int)->PyData
 | none=>.none
 | some s=>prD s
theorem h8(z:Str):z.length=z.cps.toList.length:=by simp[Str.length]
theorem aA6{rs:List Rw}{sg:Nat}{z:Str}(M:Mach rs sg)(S:c7 sg z.cps.toList){s:Int×Int}(V:fV rs z.cps.toList s):fK [.d (dL rs),.d (.str z),.d (prD s)]=.ok (.d (mZ (cP rs z.cps.toList s))):=by
 obtain ⟨p,q⟩:=s
 have hr:=aA5 V.2.2.1 V.2.2.2
 have hz:z.length<=16777216:=by rw[h8];have:=S.1;omega
 have hl:=qW hz
 rw[h8] at hl
 generalize hL:z.cps.toList=zl at *
 unfold fK oA
 by_cases h0:p=0
 ·subst h0
  have hst:cP rs zl (0,q)=match (dQ rs q).l with | .w _=>none | .n q'=>some (0+1,q'):=by
   unfold cP b6;simp only[if_true]<;>(cases (dQ rs q).l<;>rfl)
  cases e:(dQ rs q).l with
  | w x=>
   rw[e] at hst
   rw[hst]
   simp[prD,hr,hl,dZ,cY,e,Tn.d,aGB,mZ]
  | n q'=>
   rw[e] at hst
   rw[hst]
   simp[prD,hr,hl,dZ,cY,e,Tn.d,aGA,mZ]
 ·by_cases h1:p=(zl.length:Int)+1
  ·have hst:cP rs zl (p,q)=match (dQ rs q).r with | .w _=>none | .n q'=>some (p + -1,q'):=by
    unfold cP b6;simp only[if_neg h0,if_pos h1]<;>(cases (dQ rs q).r<;>rfl)
   have hp:(0:Int) < p:=by omega
   have hgt:(zl.length:Int) < p:=by omega
   cases e:(dQ rs q).r with
   | w x=>
    rw[e] at hst
    rw[hst]
    simp[prD,hr,hl,dZ,cY,e,Tn.d,aGB,mZ,h0,hgt,hp]
   | n q'=>
    rw[e] at hst
    rw[hst]
    simp[prD,hr,hl,dZ,cY,e,Tn.d,aGA,mZ,h0,hgt,hp]
    omega
  ·obtain ⟨c,a1,a2,a3⟩:=vZ S V h0 h1
   obtain ⟨cc,b1,b2,b3⟩:=oZ M S V h0 h1
   have v1:=V.1
   have v2:=V.2.1
   simp only at v1 v2 a1 a3 b1 b2
   have hst:cP rs zl (p,q)=some (p+cc.2,cc.1):=by
    unfold cP b6;simp only[if_neg h0,if_neg h1,b2]
   have hgt:¬ (zl.length:Int) < p:=by omega
   have ix:dIx (.str z) (.int (p - 1))=.ok (.str ⟨#[c]⟩):=aD9 hz (kZ (by omega) (by rw[hL,<-a1];congr 1;omega))
   have id:=aCT (aA4 M.sg3 a2)
   have ic:dIx (.tuple ((dQ rs q).c.map iE)) (.int ((c - 97:Nat):Int))=.ok (iE cc):=sB (kR (by rw[List.getElem?_map,<-a3,b1];rfl))
   rw[hst]
   simp[prD,hr,hl,dZ,cY,mZ,h0,hgt,ix,id,ic,iE]
theorem iP(xs:List PyData)(x:PyData):dIx (.list (xs++[x])) (.int (-1))=.ok x:=nR (L2.aG5 xs x)
noncomputable def tN:Sg->R Bool:=(e1 asB (tK true 3 (e2 dIx (rV 2) (e1 dNeg (eC (.int 1))))))
noncomputable def tO:Sg->R Fw:=(aH (rZ 3 (e2 dIx (rV 2) (e1 dNeg (eC (.int 1)))) (eC (.bool true)))
 (aH (bB 4 (bA 3 fK (aB (vV 0) (aB (vV 1) (aB (vD (e2 dIx (rV 2) (e1 dNeg (eC (.int 1))))) aO)))))
 (aH (sIf (e1 asB (e2 dIs (rV 4) (eC .none))) (sFz 2 (bN (vV 2))) sNx)
 (g8 2 (eV 4)))))
theorem aEA:lU=aH (eH 2 (eP (aB (cO (aB (eC (.int 0)) (aB (eC (.int 0)) aO))) aO))) (aH (rY 3) (aH (cV tN tO) (sFz 2 (bN (vV 2))))):=id rfl
def stρ(rs:List Rw)(z:Str)(ps:List (Int×Int))(s:Int×Int)(u:Option A):Sg:=[some (.d (dL rs)),some (.d (.str z)),some (.l (ps.map prD++[prD s])),some (.m (been prD ps)),u]
theorem aNM{rs:List Rw}{z:Str}{ps:List (Int×Int)}{s:Int×Int}{u:Option A}(h:s∈ps):tN (stρ rs z ps s u)=.ok false:=by
 have h1:=gY j5 ps s
 have h2:=(tM iW).mpr h
 simp[tN,stρ,iP,h1,h2]
theorem aCV{rs:List Rw}{z:Str}{ps:List (Int×Int)}{s:Int×Int}{u:Option A}(h:s∉ps):tN (stρ rs z ps s u)=.ok true:=by
 have h1:=gY j5 ps s
 have h2:=qX iW h
 simp[tN,stρ,iP,h1,h2]
theorem aGC(s:Int×Int):jP (prD s)=false:=id rfl
theorem aK7{rs:List Rw}{sg:Nat}{z:Str}(M:Mach rs sg)(S:c7 sg z.cps.toList){ps:List (Int×Int)}{s:Int×Int}{u:Option A}(V:fV rs z.cps.toList s)(h:s∉ps)(hp:ps.length<=2000000)(e:cP rs z.cps.toList s=none):tO (stρ rs z ps s u)=.ok (.rt (.d (.list ((ps++[s]).map prD)))):=by
 have h1:=gY j5 ps s
 have h3:=pD iW h
 have h4:(been prD ps).length<=16777216:=by rw[pE];omega
 have f:=aA6 M S V
 rw[e] at f
 simp[tO,stρ,iP,h1,h3,h4,f,mZ]
theorem aNN{rs:List Rw}{sg:Nat}{z:Str}(M:Mach rs sg)(S:c7 sg z.cps.toList){ps:List (Int×Int)}{s s':Int×Int}{u:Option A}(V:fV rs z.cps.toList s)(h:s∉ps)(hp:ps.length<=2000000)(e:cP rs z.cps.toList s=some s'):tO (stρ rs z ps s u)=.ok (.nx (stρ rs z (ps++[s]) s' (some (.d (prD s'))))):=by
 have h1:=gY j5 ps s
 have h3:=pD iW h
 have h4:(been prD ps).length<=16777216:=by rw[pE];omega
 have f:=aA6 M S V
 rw[e] at f
 have h5:ps.length+1 < 16777216:=by omega
 simp[tO,stρ,iP,h1,h3,h4,f,mZ,aGC,h5]
def iD(rs:List Rw)(z:List Nat)(s:Int×Int):Prop:=fV rs z s/\((cP rs z s=none/\∃ x,(b6 rs z s).1=.w x/\nL (lR rs z) (0,0)=some x)\/((∃ s',cP rs z s=some s')/\nL (lR rs z) (0,0)=none))
theorem aBV{rs:List Rw}{sg:Nat}{z:Str}(M:Mach rs sg)(S:c7 sg z.cps.toList):∀ (k:Nat) (ps:List (Int×Int)) (s:Int×Int) (u:Option A),Way rs z.cps.toList ps s k->Und2 (lR rs z.cps.toList) (0,0) ps s->
  aH (cV tN tO) (sFz 2 (bN (vV 2))) (stρ rs z ps s u)=.ok (.rt (.d (.list ((eK rs z.cps.toList).map prD))))/\∃ ps' s',eK rs z.cps.toList=ps'++[s']/\iD rs z.cps.toList s':=by
 have hB:j9 rs z.cps.toList<=1002 * 1000:=Nat.mul_le_mul (by have:=S.1;omega) M.len2
 have hin:∀ (k:Nat) (ps:List (Int×Int)) (s:Int×Int) (u:Option A),Way rs z.cps.toList ps s k->Und2 (lR rs z.cps.toList) (0,0) ps s->s∈ps->aH (cV tN tO) (sFz 2 (bN (vV 2))) (stρ rs z ps s u)=.ok (.rt (.d (.list ((eK rs z.cps.toList).map prD))))/\∃ ps' s',eK rs z.cps.toList=ps'++[s']/\iD rs z.cps.toList s':=by
  intro k ps s u W U hs
  refine ⟨?_,ps,s,(W.stop hs).symm,W.here,.inr ⟨?_,U.met hs⟩⟩
  ·rw[bR,xT (aNM hs),<-W.stop hs]
   simp[stρ]
  ·obtain ⟨m,r⟩:=U.back s hs
   cases r with
   | cons h t=>
    rcases walk_step (rs:=rs) (z:=z.cps.toList) (s:=s) with ⟨x,_,_,e⟩|⟨s',e,_⟩
    · rw [e] at h; cases h
    · exact ⟨s', e⟩
 intro k
 induction k with
 | zero=>
  intro ps s u W U
  by_cases hs:s∈ps
  ·exact hin 0 ps s u W U hs
  ·obtain ⟨j,hj⟩:=W.more hs;omega
 | succ k ih=>
  intro ps s u W U
  by_cases hs:s∈ps
  ·exact hin _ ps s u W U hs
  ·have hp:ps.length<=2000000:=by have:=W.num;omega
   rcases walk_step (rs:=rs) (z:=z.cps.toList) (s:=s) with ⟨x,e,e2,e3⟩|⟨s',e,e3⟩
   ·refine ⟨?_,ps,s,(W.ends hs e).symm,W.here,.inl ⟨e,x,e2,U.outs e3⟩⟩
    rw[bR,xS (aCV hs) (aK7 M S W.here hs hp e),<-W.ends hs e];rfl
   ·have:=ih (ps++[s]) s' (some (.d (prD s'))) (W.next M S hs e) (U.next hs e3)
    rw[bR] at this ⊢
    rw[xR (aCV hs) (aNN M S W.here hs hp e)]
    exact this
theorem tP{rs:List Rw}{sg:Nat}{z:Str}(M:Mach rs sg)(S:c7 sg z.cps.toList):dI [.d (dL rs),.d (.str z)]=.ok (.d (.list ((eK rs z.cps.toList).map prD)))/\∃ ps' s',eK rs z.cps.toList=ps'++[s']/\iD rs z.cps.toList s':=by
 have h:=aBV M S (j9 rs z.cps.toList) [] (0,0) none (Way.start M) Und2.start
 refine ⟨?_,h.2⟩
 unfold dI
 rw[aEA]
 simp only[d0,bR,fQ,iT,cF,gQ,b9,cH,R.bind_ok,List.length_cons,List.length_nil,Nat.reduceAdd,Nat.reduceLeDiff,if_true,List.map_cons,List.map_nil,List.cons_append,List.nil_append,List.replicate,List.set_cons_zero,List.set_cons_succ,aA2]
 have e:=h.1
 rw[bR] at e
 simp only[stρ,List.map_nil,List.nil_append,been,prD] at e
 rw[e];rfl
noncomputable def eD(rs:List Rw)(z:List Nat):Str:=(nL (lR rs z) (0,0)).getD "ever"
theorem aNO{rs:List Rw}{sg:Nat}{z:Str}(M:Mach rs sg)(S:c7 sg z.cps.toList):jK [.d (dL rs),.d (.str z)]=.ok (.d (.str (eD rs z.cps.toList))):=by
 obtain ⟨h,ps,s,e,V,q⟩:=tP M S
 have f:=aA6 M S V
 rw[e,List.map_append,List.map_cons,List.map_nil] at h
 have hr:=aA5 V.2.2.1 V.2.2.2
 unfold jK oB eD
 obtain ⟨p,r⟩:=s
 rcases q with ⟨q1,x,q2,q3⟩|⟨⟨s',q1⟩,q3⟩
 ·rw[q1] at f
  rw[q3]
  have hw:(if 0 < p then (dQ rs r).r else (dQ rs r).l)=.w x:=by
   unfold b6 at q2
   simp only at q2
   by_cases h0:p=0
   ·rw[if_pos h0] at q2;rw[if_neg (by omega)];exact q2
   ·rw[if_neg h0] at q2
    have v1:=V.1
    simp only at v1
    rw[if_pos (by omega)]
    by_cases h1:p=(z.cps.toList.length:Int)+1
    · rw [if_pos h1] at q2; exact q2
    · rw [if_neg h1] at q2; cases q2
  simp only[prD] at f hr h
  by_cases hp:0 < p
  ·rw[if_pos hp] at hw
   simp[h,iP,prD,f,mZ,hr,dZ,hp,hw,Tn.d]
  ·rw[if_neg hp] at hw
   simp[h,iP,prD,f,mZ,hr,dZ,hp,hw,Tn.d]
 ·rw[q1] at f
  rw[q3]
  simp only[prD] at f hr h
  simp[h,iP,prD,f,mZ]
end Mc
namespace Mc
open PySem L2 PyProof.Rows Fl
theorem aA7{x:PyData}(hx:SeqAt.shaped x=true)(h:∀ i,x≠.str i\/True):inD x (.tuple [.str "by",.str "out"])=some (PyData.eqv (.str "by") x || (PyData.eqv (.str "out") x || false)):=by
 have hs:SeqAt.shaped (.tuple [.str "by",.str "out"])=true:=by decide +kernel
 cases x<;>simp[inD,hx,hs]
theorem aGD(x:Str)(q:Int):PyData.eqv (.str x) (.int q)=false:=by simp[PyData.eqv]
theorem aA8(x y:Str):PyData.eqv (.str x) (.str y)=(x == y):=by rw[PyData.eqv.eq_6]
theorem aEB(q:Int):dIn (.int q) (.tuple [.str "by",.str "out"])=.ok (.bool false):=by
 unfold dIn
 rw[aA7 rfl fun _=>.inr trivial,aGD,aGD];rfl
theorem aEC{x:Str}(h:x="by"\/x="out"):dIn (.str x) (.tuple [.str "by",.str "out"])=.ok (.bool true):=by
 have h2:SeqAt.shaped (.str x)=true:=by rcases h with rfl|rfl<;>decide +kernel
 unfold dIn
 rw[aA7 h2 fun _=>.inr trivial,aA8,aA8]
 rcases h with rfl|rfl<;>rfl
end Mc
namespace Mc
open PySem L2 PyProof.Rows Fl
end Mc
namespace Mc
open PySem L2 PyProof.Rows Fl
theorem aGE(i j:Int):dNe (.int i) (.int j)=.ok (.bool (!decide (i=j))):=by rw[aNG (iX i) (iX j),aF9]
end Mc
namespace Mc
open PySem L2 PyProof.Rows Fl
end Mc
namespace Fl
open PySem L2 PyProof.Rows
@[simp] theorem aQA(i:Nat)(f:Sg->R (List (PyData×PyData)))(ρ:Sg):aO1 i f ρ=(f ρ).bind fun kvs=>(aAQ [] kvs).bind fun res=>.ok (.nx (ρ.set i (some (.m res)))):=id rfl
@[simp] theorem aQO(ρ:Sg):aP4 ρ=.ok []:=id rfl
@[simp] theorem aQB(f g:Sg->R PyData)(r:Sg->R (List (PyData×PyData)))(ρ:Sg):aO0 f g r ρ=(f ρ).bind fun x=>(g ρ).bind fun y=>(r ρ).bind fun t=>.ok ((x,y)::t):=id rfl
@[simp] theorem aPH(i:Nat)(f g:Sg->R PyData)(ρ:Sg):aNA i f g ρ=match ρ[i]? with|some (some (.m kvs))=>(f ρ).bind fun k=>(g ρ).bind fun y=>if eW k (kvs.map (·.1))=true then .ok ((kY kvs k).getD y) else .bad|_=>.bad:=id rfl
end Fl
namespace Mc
open PySem L2 PyProof.Rows Fl
end Mc
namespace Mc
open PySem L2 PyProof.Rows Fl
theorem pF{w:Str}(h:w="by"\/w="out"\/w="ever"):SeqAt.shaped (.str w)=true:=by rcases h with rfl|rfl|rfl<;>decide +kernel
theorem kJ{w v:Str}(h:w="by"\/w="out"\/w="ever")(h':v="by"\/v="out"\/v="ever"):dEq (.str w) (.str v)=.ok (.bool (decide (w=v))):=by
 rw[oK (pF h) (pF h'),aA8]
 congr 2
end Mc
namespace Mc
open PySem L2 PyProof.Rows Fl
end Mc
namespace Fl
open PySem L2 PyProof.Rows
def q0(ρ:Sg)(σ:L2.St)(p:Addr):Prop:=∀ (j:Nat) (a:A),ρ[j]? = some (some a)->a.own=true->σ[j]? ≠ some (some (.ref p))
theorem Ab.off9{c:Ct}{ρ:Sg}{σ:L2.St}{F H:Hp}{p:Addr}{o:HO}(b:Ab c ρ σ F H)(h3:F p=none)(h4:c.H0 p=none)(hs:q0 ρ σ p):Ab c ρ σ F (upd H p o) where
 len:=b.len
 fh:=fun a o' z=>by rw[aP (fun w=>by rw[w,h3] at z;cases z)];exact b.fh a o' z
 slot:=fun j a h=>by
  obtain ⟨v,h1,h2⟩:=b.slot j a h
  refine ⟨v,h1,?_⟩
  cases ho:a.own with
  | true=>exact h2.off fun z=>hs j a h ho (by rw[h1,z])
  | false=>
   cases a with
   | l xs=>cases ho
   | m xs=>cases ho
   | d x=>exact h2
   | x e=>exact h2
   | g k n f=>exact h2
   | k S=>exact h2
   | f S=>exact h2
   | o S=>exact h2
 apart:=b.apart
 f0:=b.f0
 h0:=fun a o' z=>by rw[aP (fun w=>by rw[w,h4] at z;cases z)];exact b.h0 a o' z
 n0:=b.n0
 t0:=b.t0
theorem Ab.pub9{c:Ct}{ρ:Sg}{σ:L2.St}{F H:Hp}{p:Addr}{o:HO}(b:Ab c ρ σ F H)(h2:H p=some o)(h3:F p=none)(h4:c.H0 p=none)(hs:q0 ρ σ p):Ab c ρ σ (upd F p o) H:=by
 have sf:aR F (upd F p o):=aR.upd h3
 exact {
  len:=b.len
  fh:=fun a o' z=>by
   by_cases w:a=p
   ·subst w;rw[aY] at z;rw[h2];exact z
   ·rw[aP w] at z;exact b.fh a o' z
  slot:=fun j a h=>by
   obtain ⟨w,hw,q2⟩:=b.slot j a h
   refine ⟨w,hw,?_⟩
   have off:∀ r,a.own=true->w=.ref r->F r=none->upd F p o r=none:=fun r oa e f=>by
    rw[aP]
    ·exact f
    ·intro z
     subst z
     exact hs j a h oa (by rw[hw,e])
   cases a with
   | l zs=>obtain ⟨r,ws,e,q1,q2,q3,q4⟩:=q2;exact ⟨r,ws,e,q1,off r rfl e q2,q3,q4.same sf⟩
   | m kvs=>obtain ⟨r,ws,e,q1,q2,q3,q4⟩:=q2;exact ⟨r,ws,e,q1,off r rfl e q2,q3,q4.same sf⟩
   | d x=>exact DatV.same sf q2
   | x e=>exact AF.same (g:=c.g) (K:=c.K) (mg:=c.mg) (a:=.x e) sf q2
   | g k n f=>exact AF.same (g:=c.g) (K:=c.K) (mg:=c.mg) (a:=.g k n f) sf q2
   | k S=>obtain ⟨S,f,cl,doc,pm,cc,ct,h0,h1,h2,h3,h4⟩:=q2;exact ⟨S,f,cl,doc,pm,cc,ct,h0,h1,sf _ _ h2,sf _ _ h3,h4⟩
   | f kvs=>exact AF.same (g:=c.g) (K:=c.K) (mg:=c.mg) (a:=.f kvs) sf q2
   | o e=>exact AF.same (g:=c.g) (K:=c.K) (mg:=c.mg) (a:=.o e) sf q2
  apart:=b.apart
  f0:=fun a o z=>sf a o (b.f0 a o z)
  h0:=b.h0
  n0:=fun a z n=>by
   by_cases w:a=p
   ·subst w;exact .inl h4
   ·rw[aP w] at n;exact b.n0 a z n
  t0:=b.t0}
theorem Ab.drop9{c:Ct}{ρ:Sg}{σ:L2.St}{F H:Hp}(b:Ab c ρ σ F H)(i:Nat)(v:V):Ab c (ρ.set i none) (σ.set i (some v)) F H where
 len:=by rw[List.length_set,List.length_set];exact b.len
 fh:=b.fh
 slot:=fun j a h=>by
  rcases get_set h with ⟨e,q,hl⟩|⟨ne,q⟩
  ·cases q
  ·rw[List.getElem?_set_ne ne];exact b.slot j a q
 apart:=fun j k a' b' hjk h1 h2 o1 o2=>by
  rcases get_set h1 with ⟨e,q,hl⟩|⟨ne,q⟩
  ·cases q
  ·rcases get_set h2 with ⟨e',q',hl'⟩|⟨ne',q'⟩
   ·cases q'
   ·rw[List.getElem?_set_ne ne,List.getElem?_set_ne ne']
    exact b.apart j k a' b' hjk q q' o1 o2
 f0:=b.f0
 h0:=b.h0
 n0:=b.n0
 t0:=b.t0
theorem aA9{α:Type}{l:List α}{i:Nat}{x:α}(h:l[i]? = some x):l.set i x=l:=by
 obtain ⟨hl,e⟩:=List.getElem?_eq_some_iff.mp h
 rw[<-e];exact List.set_getElem_self hl
structure Own9(c:Ct)(F H:Hp)(ρ:Sg)(σ:L2.St)(i:Nat)(p b:Addr)(u:V)(ws:List V):Prop where
 s:σ[i]? = some (some (.ref p))
 ne:p≠b
 hp:H p=some (.lst [u,.ref b])
 hb:H b=some (.lst ws)
 fp:F p=none
 fb:F b=none
 p0:c.H0 p=none
 b0:c.H0 b=none
 np:q0 ρ σ p
 nb:q0 ρ σ b
theorem Own9.ext{c:Ct}{F H F' H':Hp}{ρ:Sg}{σ:L2.St}{i:Nat}{p b:Addr}{u:V}{ws:List V}(h:Own9 c F H ρ σ i p b u ws)(e:Ext F H F' H'):Own9 c F' H' ρ σ i p b u ws:=
 ⟨h.s,h.ne,e.hh _ _ h.hp,e.hh _ _ h.hb,e.stay h.fp h.hp (fun _ z=>nomatch z),e.stay h.fb h.hb (fun _ z=>nomatch z),h.p0,h.b0,h.np,h.nb⟩
theorem Own9.done{c:Ct}{F H:Hp}{ρ:Sg}{σ:L2.St}{i:Nat}{p b:Addr}{u:V}{ws ws':List V}{d1:PyData}{ys:List PyData}(h:Own9 c F H ρ σ i p b u ws)(ab:Ab c ρ σ F H)(h1:DatV c.K F u d1)(h2:DatVs c.K F ws' ys) :
  ∃ F',aR F F'/\Ab c (ρ.set i (some (.d (.list [d1,.list ys])))) σ F' (upd H b (.lst ws')):=by
 have a1:=(ab.off9 (o:=.lst ws') h.fb h.b0 h.nb).pub9 (p:=b) aY h.fb h.b0 h.nb
 have a2:=a1.pub9 (p:=p) (o:=.lst [u,.ref b]) (by rw[aP h.ne];exact h.hp) (by rw[aP h.ne];exact h.fp) h.p0 h.np
 have s1:aR F (upd F b (.lst ws')):=aR.upd h.fb
 have s2:aR (upd F b (.lst ws')) (upd (upd F b (.lst ws')) p (.lst [u,.ref b])):=aR.upd (by rw[aP h.ne];exact h.fp)
 have a3:=a2.setA (i:=i) (a:=.d (.list [d1,.list ys])) (v:=.ref p) (.lst (SqL.of aY) (.cons ((h1.same s1).same s2) (.cons (.lst (SqL.of (by rw[aP (Ne.symm h.ne)];exact aY)) ((h2.same s1).same s2)) .nil)))
 rw[aA9 h.s] at a3
 exact ⟨_,fun a o z=>s2 a o (s1 a o z),a3⟩
end Fl
namespace L2
open PySem PySem.Spec PyProof.Rows
def tCM(C:Addr)(sp:Sp)(dvs:List V)(E:XK)(ta:TE)(t:TA):TE:=fun σ H Q=>ta σ H fun x H1=>x=.ref C/\t σ H1 fun vs H2=>sp (vs++dvs) H2 Q E
structure ClsM(K:Frag)(C:Addr)(m:Str)(f:Addr):Prop where
 sp:PySem.W.specialIn K (.ref C) "__getattribute__"=some (some (.builtin "type.__getattribute__"))
 rd:PySem.W.readsIn K C (.type "type")=true
 fc:PySem.W.findCls K (.ref C) (.type "type") m=some (.val (.ref f))
 kp:PySem.W.keepIn K (.ref f)=true
section
variable{X:Cx}{CX:CXT}{k:Nat}{f C:Addr}{fd:FuncData}{ps:List Str}{sp:Sp}{dvs:List V}{ds:List Value}{E:XK}{m:Str}{pos apos:Pos}{e o:Expr}{es:List Expr}{ta:TE}{t:TA}
theorem wI{pl:Sem Bool}(he:PE X o ta)(cm:ClsM X.K C m f)(F:FnOk X.prog X.w X.K X.mg X.base CX k f fd ps sp)(hr:Room k X.A)(hb:dC X.K fd ps ds)(hd:bJ dvs ds)(hx:jI CX X E)(ha:PA X (e::es) t)
  (hst:starEach (e::es) X.env=(false,eval e X.env)::starEach es X.env:=by rfl) (hpl:(backTo pos (starEach es X.env)).any (·.1)=false:=by rfl)
  (ht:eval (.Call (.Attribute o m apos) (e::es) [] pos) X.env=(do
   let ov <-eval o X.env
   standAt apos.atName
   let (f,first) <-holding [ov] (getMethod ov m pl)
   callWith pos f first (backTo pos (starEach (e::es) X.env)) (backToKw pos (keywordEach [] X.env))):=by rfl) :
  PE X (.Call (.Attribute o m apos) (e::es) [] pos) (tCM C sp dvs E ta t):=by
 intro pins s σ H Q I h
 refine PySem.W.methodCall_KW (pl:=pl) (thn (he pins s σ H _ I h) fun u s1 zz0=>?_) ht
 obtain ⟨x,H1,I1,rx,ex,q⟩:=zz0
 subst ex
 obtain rfl:u=Value.ref C:=rx
 refine PySem.W.method_cls I1.kIn cm.sp (PySem.W.cls_value I1.kIn cm.rd cm.fc rfl ?_)
 have I1':=I1.tok (s1.toks+1)
 refine PySem.W.callWith_K (first:=[]) (h₀:=X.base) I.ok.mod.kin cm.kp (thn (ha pos pins _ σ H1 _ I1' q) fun us s2 ⟨vs,H2,I2,r,q2⟩=>⟨I2.kIn,?_⟩) hst hpl
 exact zD (us:=us) (vs:=vs) F hr hb hd hx I2 r q2
end
def spB(K:Frag)(fs:List Str):Sp:=fun vs H Q _=>∃ x C dx us,vs=.ref x::us/\us.length=fs.length/\H x=some (.ins C dx [])/\Cls K C/\(∀ f∈fs,dG K C f)/\Q .non (upd H x (.ins C dx (fs.zip us)))
def spO(C:Addr)(fs:List Str):Sp:=fun vs H Q _=>∃ x dx us,vs=.ref x::us/\us.length=fs.length/\H x=some (.ins C dx [])/\Q .non (upd H x (.ins C dx (fs.zip us)))
structure MkAt(P:Program)(w:World)(K:Frag)(mg:Str->Option Value)(base:Heap)(k:Nat)(cn:Str)(fs:List Str)(C:Addr):Prop where
 m:mg cn=some (.ref C)
 i:∃ f fd,Mk K C f/\FnOk P w K mg base CX0 k f fd ("self"::fs) (spO C fs)/\dC K fd ("self"::fs) []
end L2
namespace Fl
open PySem L2 PyProof.Rows
def vO(i:Nat):Sg->R A:=fun ρ=>match ρ[i]? with
 | some (some (.o e))=>.ok (.o e)
 | _=>.bad
theorem oN{X:Cx}{c:Ct}{E:XK}{e:Expr}{i:Nat}(h:PE X e (gF i)):PV X c E e (vO i):=PE.imp h fun σ H Q ⟨ρ,F,ab,k⟩=>by
 unfold vO at k
 split at k
 ·rename_i x hx
  obtain ⟨v,h1,h2⟩:=ab.slot i _ hx
  exact ⟨v,h1,k v F H (Ext.refl ab.fh) h2⟩
 ·exact k.elim
def wJ(cn:Str)(fs:List Str)(f:Sg->R (List PyData)):Sg->R A:=fun ρ=>(f ρ).bind fun xs=>if xs.length=fs.length then .ok (.o ⟨cn,fs.zip xs⟩) else .bad
section
variable{X:Cx}{c:Ct}{E:XK}{e o:Expr}{es:List Expr}{pos apos:Pos}
theorem aK8{cn:Str}{fs:List Str}{C:Addr}{E':XK}{f:Sg->R (List PyData)}(hm:c.mg cn=some (.ref C))(h:PE X e (aI3 C (spO C fs) [] E' (tAd c E f))):PV X c E e (wJ cn fs f):=PE.imp h fun σ H Q zz0=>by
 obtain ⟨ρ,F,ab,k⟩:=zz0
 refine ⟨ρ,F,ab,(Rk.bind k).imp fun xs _ q vs F1 H1 s1 r1 x dx hx hdx hne=>?_⟩
 by_cases hn:xs.length=fs.length
 ·rw[if_pos hn] at q
  have hv:vs.length=fs.length:=by rw[r1.length,hn]
  refine ⟨x,dx,vs,by rw[List.append_nil],hv,aY,rfl,?_⟩
  rw[iQ]
  have s2:Ext F1 H1 (upd F1 dx (.own x)) (upd H1 dx (.own x)):=Ext.new s1.fh hdx
  have s3:Ext _ _ (upd (upd F1 dx (.own x)) x (.ins C dx (fs.zip vs))) (upd (upd H1 dx (.own x)) x (.ins C dx (fs.zip vs))):=Ext.new s2.fh (by rw[aP (Ne.symm hne)];exact hx)
  exact Rk.ok q (.ref x) _ _ (s1.trans (s2.trans s3)) ⟨x,rfl,C,dx,fs.zip vs,hm,aY,(by show _=(fs.zip xs).map (·.1);rw[oI hv,oI hn]),(by show DatVs _ _ _ ((fs.zip xs).map (·.2));rw[oJ hv,oJ hn];exact r1.same (s2.trans s3).ff)⟩
 ·rw[if_neg hn] at q;exact q.elim
theorem aBA{k:Nat}{cn:Str}{fs:List Str}{C:Addr}{p:Pos}{f:Sg->R (List PyData)}(hM:X.mg=c.mg)(M:MkAt X.prog X.w X.K X.mg X.base k cn fs C)(hr:Room (k+1) X.A)(hg:Gl X cn)(ha:PAd X c E (e::es) f)(hdb:(cn == ("__debug__":Str))=false:=by decide)(he:starEach (e::es) X.env=(false,eval e X.env)::starEach es X.env:=by rfl)(hpl:(backTo pos (starEach es X.env)).any (·.1)=false:=by rfl):PV X c E (.Call (.Name cn p) (e::es) [] pos) (wJ cn fs f):=by
 obtain ⟨fI,fd,mk,ok,b⟩:=M.i
 exact aK8 (by rw[<-hM];exact M.m) (aJ2 mk ok hr hg M.m b .nil yS ha hdb he hpl)
def eOF(i:Nat)(cs:List Str)(g:Str):Sg->R PyData:=fun ρ=>match ρ[i]? with
 | some (some (.o e))=>if cs.contains e.c=true then (match e.fs.lookup g with|some d=>.ok d|none=>.bad) else .bad
 | _=>.bad
def g9(K:Frag)(mg:Str->Option Value)(cs:List Str)(g:Str):Prop:=∀ nm∈cs,∃ C,mg nm=some (.ref C)/\Cls K C/\dG K C g
theorem jL{i:Nat}{cs:List Str}{g:Str}{e:Expr}(hK:X.K=c.K)(hM:X.mg=c.mg)(hc:g9 X.K X.mg cs g)(h:PE X e (aMD X.K (gF i) g)):PD X c E e (eOF i cs g):=PE.imp h fun σ H Q ⟨ρ,F,ab,k⟩=>by
 unfold eOF at k
 split at k
 ·rename_i er hi
  split at k
  ·rename_i hcc
   split at k
   ·rename_i d hd
    obtain ⟨v,hv,a,rfl,C,dx,fvs,m,h1,h2,h3⟩:=ab.slot i _ hi
    obtain ⟨C2,m2,x1,x2⟩:=hc er.c (by simpa using hcc)
    rw[hM,m] at m2
    cases m2
    obtain ⟨u,u1,u2⟩:=aAR h2 h3 hd
    exact ⟨_,hv,a,C,dx,fvs,u,rfl,ab.fh _ _ h1,x1,x2,u1,Rk.ok k u F H (Ext.refl ab.fh) u2⟩
   ·exact k.elim
  ·exact k.elim
 ·exact k.elim
def wK(P:Program)(w:World)(K:Frag)(mg:Str->Option Value)(base:Heap)(T:Hp)(k:Nat)(cn m:Str)(G:List A->R A):Prop:=
 ∃ C f fd,mg cn=some (.ref C)/\Cls K C/\Meth K C m f/\FnOk P w K mg base (CXe P w) k f fd ["self"] (spF (gOf P w K mg base T) K mg 1 G)/\dC K fd ["self"] []
theorem qH{V W:Type}{g:Str}:∀ {fvs:List (Str×V)} {fs:List (Str×W)},fvs.map (·.1)=fs.map (·.1)->fs.lookup g=none->fvs.lookup g=none
 | [],[],_,_=>rfl
 | [],_::_,h,_=>by simp at h
 | _::_,[],h,_=>by simp at h
 | (a,v)::fvs,(b,x)::fs,h,e=>by
  rw[List.map_cons,List.map_cons] at h
  injection h with h1 h2
  simp only at h1
  subst h1
  rw[List.lookup_cons] at e ⊢
  cases q:(g == a) with
  | true=>rw[q] at e;cases e
  | false=>rw[q] at e;exact qH h2 e
theorem sT{α:Type}{k:Str}{v:α}:∀ {l:List (Str×α)},l.lookup k=some v->(k,v)∈l
 | [],h=>by cases h
 | (a,x)::t,h=>by
  rw[List.lookup_cons] at h
  cases q:(k == a) with
  | true=>rw[q] at h;cases h;rw[eq_of_beq q];exact .head _
  | false=>rw[q] at h;exact .tail _ (sT h)
def vMt(f:Sg->R A)(m:Str)(tb:List (Str×(List A->R A))):Sg->R A:=fun ρ=>(f ρ).bind fun a=>match a with
 | .o e=>if (e.fs.lookup m).isNone=true then (match tb.lookup e.c with|some G=>G [.o e]|none=>.bad) else .bad
 | _=>.bad
theorem aJJ{k:Nat}{m:Str}{T:Hp}{tb:List (Str×(List A->R A))}{f:Sg->R A}{pl:Sem Bool}(hG:c.g=gOf X.prog X.w X.K X.mg X.base T)(hK:X.K=c.K)(hM:X.mg=c.mg)(h:∀ p∈tb,wK X.prog X.w X.K X.mg X.base T k p.1 m p.2)(hr:Room k X.A)(hx:jI (CXe X.prog X.w) X E)(hv:PV X c E o f)
  (ht:eval (.Call (.Attribute o m apos) [] [] pos) X.env=(do
   let ov <-eval o X.env
   standAt apos.atName
   let (f,first) <-holding [ov] (getMethod ov m pl)
   callWith pos f first (backTo pos (starEach [] X.env)) (backToKw pos (keywordEach [] X.env))):=by rfl):PV X c E (.Call (.Attribute o m apos) [] [] pos) (vMt f m tb):=by
 intro pins s σ H Q I ⟨ρ,F,ab,k⟩
 refine aBS hv I ⟨ρ,F,ab,(Rk.bind k).imp fun a _ k v F1 H1 s1 r1=>?_⟩ ht
 cases a with
 | o er=>
  dsimp only at k
  split at k
  ·rename_i hnone
   split at k
   ·rename_i G hl
    obtain ⟨a,rfl,C,dx,fvs,m',h1,h2,h3⟩:=r1
    obtain ⟨C2,f,fd,m2,cl,me,ok,b⟩:=(show wK X.prog X.w X.K X.mg X.base T _ er.c m G from h _ (sT hl))
    rw[hM] at m2
    have m3:c.mg er.c=some (.ref C2):=m2
    rw[m'] at m3
    cases m3
    refine ⟨a,C,dx,fvs,f,rfl,s1.fh _ _ h1,cl,me,qH h2 (Option.isNone_iff_eq_none.mp hnone),fun s2 I2=>?_⟩
    refine PySem.W.callWith_K0 (first:=[.ref a]) I2.kIn me.kp (zD (us:=[.ref a]) (vs:=[.ref a]) ok hr b .nil hx I2 (.cons rfl .nil) ?_)
    refine ⟨F1,[.o er],by rw[<-hG];exact fun a o z=>s1.ff a o (ab.f0 a o (ab.t0 a o z)),s1.fh,⟨⟨a,rfl,?_⟩,trivial⟩,rfl,?_⟩
    ·rw[hK,hM];exact ⟨C,dx,fvs,m',h1,h2,h3⟩
    ·rw[<-hG,hK,hM]
     cases hg:G [.o er] with
     | bad=>rw[hg] at k;exact k
     | ok a=>rw[hg] at k;exact fun v F' H' s r=>Rk.ok k v F' H' (s1.trans s) r
     | ex e=>rw[hg] at k;exact fun a C F' H' s r=>k a C F' H' ((ab.all.trans s1).trans s) r
   ·exact k.elim
  ·exact k.elim
 | _=>exact k.elim
end
theorem mD{P:Program}{w:World}{K:Frag}{mg:Str->Option Value}{base:Heap}{T:Hp}{x q:Str}{st:Stmt}{N ps:List Str}{k:Nat}{f:Addr}{fd:FuncData}{fb:Sg->R Fw}(FL:Fun K x q st f fd)(S:FnScope N ps (aM st))
  (hbody:∀ (cdv:Value) (A:Around) (outer:List Env) (s:Shared) (H F:Hp) (E:XK),Room k (A.deeper (envOfC q (aM st) s.heap.objs.size f cdv))->
   mN ((i7 (CXe P w) P w K mg base N q (aM st) f cdv A outer s H E).fly E) ⟨K,mg,w,F,H,gOf P w K mg base T,(envOfC q (aM st) s.heap.objs.size f cdv).cells,fun _=>none⟩ E (cC st) fb):FnOk P w K mg base (CXe P w) (k+1) f fd ps (spF (gOf P w K mg base T) K mg ps.length (fnF N.length fb)):=by
 refine FL.okX S (fun vs H Q E h=>?_) (fun cdv A outer s H vs Q E hr h=>?_)
 ·obtain ⟨F,as,_,_,h2,h3,_⟩:=h
  rw[h2.len,h3]
 ·obtain ⟨F,as,h0,h1,h2,h3,h4⟩:=h
  exact ⟨_,hbody cdv A outer s H F E hr,wE h0 h1 h2 h4⟩
end Fl
namespace Fl
open PySem L2 PyProof.Rows
def rLI(K:Frag):V->List V->Hp->VK->Prop:=fun x vs H Q=>∃ xs d u j,vs=[u]/\DatV K H x (.list xs)/\DatV K H u d/\SeqAt.shaped d=true/\SeqAt.shaped (.list xs)=true/\xs.length<=16777216/\(xs.findIdx? fun y=>PyData.eqv y d)=some j/\Q (.int j) H
theorem xV{X:Cx}(hu:X.A.units+64 < cLine):MtR X "list.index" (rLI X.K):=by
 intro pins s σ H x vs v us Q I rx rv h
 obtain ⟨xs,d,u,j,rfl,hx,hd,s1,s2,hl,hj,q⟩:=h
 obtain ⟨u',rfl,ru⟩:=rv.one
 obtain ⟨as,r1⟩:=DatV.reads I hx rx
 obtain ⟨bs,r2⟩:=DatV.reads I hd ru
 have hs:=o7 s2
 have hm:=mM (b:=d.depth) hs.2
 cases r1 with
 | list h1 h2 h3 h4=>
  rename_i a o its n as'
  have hmap:=SeqAt.readsAll_map _ _ _ hs.1 h4
  obtain ⟨oc,od,dt,sl⟩:=o
  dsimp only at h2 h3
  subst h2 h3
  have hlen:its.toList.length=xs.length:=by rw[<-hmap,List.length_map]
  have hsz:its.size=xs.length:=by rw[<-hlen,Array.length_toList]
  rw[List.findIdx?_eq_some_iff_getElem] at hj
  obtain ⟨hjl,hje,hjn⟩:=hj
  have ev:∀ m (hm:m < its.size),PyData.eqv (SeqAt.readOf s.heap its[m]) d=PyData.eqv (xs[m]'(by omega)) d:=fun m hm=>by
   have:SeqAt.readOf s.heap its[m]=xs[m]'(by omega):=by
    have z:(its.toList.map (SeqAt.readOf s.heap))[m]'(by rw[List.length_map];simpa using hm)=xs[m]'(by omega):=by simp only[hmap]
    rw[List.getElem_map] at z
    simpa using z
   rw[this]
  refine call_meets PySem.F.slot_list_index ⟨_,h1,rfl⟩ PySem.F.entry_list_index (PySem.F.args_list_index_2 _ _) (SeqAt.list_indexAt a its n od sl u' (fun y=>PyData.eqv (SeqAt.readOf s.heap y) d) j (by omega) (by omega) (by rw[ev j (by omega)];exact hje) (fun m hm hlt=>by rw[ev m hm];exact Bool.eq_false_iff.mpr (hjn m hlt))) ⟨h1,SeqAt.items_eqAt h4 r2 hs.1 (kD s1) (by omega),.int j,H,I.tok _,⟨_,rfl⟩,q⟩
def q9:PyData->PyData->R PyData
 | .list xs,x=>if SeqAt.shaped x=true/\SeqAt.shaped (.list xs)=true/\xs.length<=16777216 then (match xs.findIdx? fun y=>PyData.eqv y x with|some j=>.ok (.int j)|none=>.bad) else .bad
 | _,_=>.bad
def isL:PyData->Bool
 | .list _=>true
 | _=>false
def aED(f g:Sg->R PyData):Sg->R PyData:=fun ρ=>(f ρ).bind fun x=>if isL x=true then (g ρ).bind fun y=>q9 x y else .bad
theorem xW{X:Cx}{c:Ct}{E:XK}{e:Expr}{f g:Sg->R PyData}(hK:X.K=c.K)(h:PE X e (tBM X.K "list" (rLI X.K) (tV (bD c) c E f) (dY (tV (bD c) c E g) gG))):PD X c E e (aED f g):=PE.imp h fun σ H Q ⟨ρ,F,ab,k⟩=>by
 refine ⟨ρ,F,ab,(Rk.bind k).imp fun x ex q v F1 H1 s1 r1=>?_⟩
 cases x with
 | list xs=>
  have q1:Rk c E F H (g ρ) _:=Rk.bind (f:=fun y=>q9 (.list xs) y) q
  obtain ⟨p,vs,rfl,h1,h2⟩:=a9.lst_of s1.fh r1
  refine ⟨.inl ⟨rfl,vs,by rw[hK];exact h1⟩,ρ,F1,ab.ext s1,(q1.ext s1).imp fun y _ q u F2 H2 s2 r2=>?_⟩
  unfold q9 at q
  dsimp only at q
  split at q
  ·rename_i hs
   split at q
   ·rename_i j hj
    exact ⟨xs,y,u,j,rfl,by rw[hK];exact (a9.ext s2 r1).heap s2.fh,by rw[hK];exact r2.heap s2.fh,hs.1,hs.2.1,hs.2.2,hj,Rk.ok q _ F2 H2 (s1.trans s2) (.int _)⟩
   ·exact q.elim
  ·exact q.elim
 | _=>exact q.elim
end Fl
namespace Fl
open PySem L2 PyProof.Rows
def jQ(ρ:Sg):Bool:=ρ.all fun o=>match o with
 | some a=>!a.own
 | none=>true
theorem pG{ρ:Sg}{σ:L2.St}{p:Addr}(h:jQ ρ=true):q0 ρ σ p:=fun j a hj ho=>by
 have z:=List.all_eq_true.mp h _ (List.mem_of_getElem? hj)
 simp only[ho] at z
 cases z
structure OwnL(c:Ct)(F H:Hp)(σ:L2.St)(i:Nat)(p:Addr)(qs:List Addr)(vss:List (List V)):Prop where
 s:σ[i]? = some (some (.ref p))
 hp:H p=some (.lst (qs.map V.ref))
 fp:F p=none
 p0:c.H0 p=none
 np:p∉qs
 nd:qs.Nodup
 len:vss.length=qs.length
 q:∀ (j:Nat) (q:Addr) (vs:List V),qs[j]? = some q->vss[j]? = some vs->H q=some (.lst vs)/\F q=none/\c.H0 q=none
theorem OwnL.ext{c:Ct}{F H F' H':Hp}{σ:L2.St}{i:Nat}{p:Addr}{qs:List Addr}{vss:List (List V)}(h:OwnL c F H σ i p qs vss)(e:Ext F H F' H'):OwnL c F' H' σ i p qs vss:=
 ⟨h.s,e.hh _ _ h.hp,e.stay h.fp h.hp (fun _ z=>nomatch z),h.p0,h.np,h.nd,h.len,fun j q vs h1 h2=>by
  obtain ⟨a,b,d⟩:=h.q j q vs h1 h2
  exact ⟨e.hh _ _ a,e.stay b a (fun _ z=>nomatch z),d⟩⟩
theorem OwnL.put{c:Ct}{F H:Hp}{σ:L2.St}{i:Nat}{p:Addr}{qs:List Addr}{vss:List (List V)}(h:OwnL c F H σ i p qs vss){j:Nat}{q:Addr}{vs us:List V}(h1:qs[j]? = some q)(h2:vss[j]? = some vs):OwnL c F (upd H q (.lst us)) σ i p qs (vss.set j us):=by
 have hq:q∈qs:=List.mem_of_getElem? h1
 refine ⟨h.s,?_,h.fp,h.p0,h.np,h.nd,by rw[List.length_set];exact h.len,fun k r ws e1 e2=>?_⟩
 ·rw[aP (fun z=>h.np (by rw[z];exact hq))];exact h.hp
 ·rcases get_set e2 with ⟨e,z,_⟩|⟨ne,z⟩
  ·subst e z
   rw[h1] at e1
   cases e1
   obtain ⟨_,b,d⟩:=h.q _ _ _ h1 h2
   exact ⟨aY,b,d⟩
  ·obtain ⟨a,b,d⟩:=h.q k r ws e1 z
   refine ⟨?_,b,d⟩
   rw[aP]
   ·exact a
   ·intro w
    subst w
    obtain ⟨l1,g1⟩:=List.getElem?_eq_some_iff.mp h1
    obtain ⟨l2,g2⟩:=List.getElem?_eq_some_iff.mp e1
    exact ne ((List.getElem_inj h.nd).mp (g1.trans g2.symm))
theorem aCW{c:Ct}{ρ:Sg}{σ:L2.St}{H:Hp}(hn:jQ ρ=true):∀ (qs:List Addr) (vss:List (List V)) {F:Hp},Ab c ρ σ F H->qs.Nodup->vss.length=qs.length->(∀ (j:Nat) (q:Addr) (vs:List V),qs[j]? = some q->vss[j]? = some vs->H q=some (.lst vs)/\F q=none/\c.H0 q=none)->
  ∃ F',aR F F'/\Ab c ρ σ F' H/\(∀ (j:Nat) (q:Addr) (vs:List V),qs[j]? = some q->vss[j]? = some vs->F' q=some (.lst vs))/\∀ a,a∉qs->F' a=F a
 | [],_,F,ab,_,_,_=>⟨F,cQ F,ab,fun j q vs h=>by simp at h,fun _ _=>rfl⟩
 | q::qs,[],F,ab,_,hl,_=>by simp at hl
 | q::qs,vs::vss,F,ab,nd,hl,h=>by
  obtain ⟨a,b,d⟩:=h 0 q vs rfl rfl
  have ab1:=ab.pub9 a b d (pG hn)
  have nq:q∉qs:=(List.nodup_cons.mp nd).1
  obtain ⟨F',s1,ab2,k1,k2⟩:=aCW hn qs vss ab1 (List.nodup_cons.mp nd).2 (by simpa using hl) (fun j r ws e1 e2=>by
   obtain ⟨x,y,z⟩:=h (j+1) r ws (by simpa using e1) (by simpa using e2)
   exact ⟨x,by rw[aP (fun w=>nq (by rw[<-w];exact List.mem_of_getElem? e1))];exact y,z⟩)
  refine ⟨F',fun x o z=>s1 x o (aR.upd b x o z),ab2,fun j r ws e1 e2=>?_,fun x hx=>?_⟩
  ·cases j with
   | zero=>simp at e1 e2;subst e1 e2;rw[k2 q nq,aY]
   | succ j=>exact k1 j r ws (by simpa using e1) (by simpa using e2)
  ·rw[List.mem_cons,not_or] at hx
   rw[k2 x hx.2,aP hx.1]
theorem aBB{K:Frag}{F F2:Hp}(s:aR F F2):∀ {qs:List Addr} {vss:List (List V)} {xss:List (List PyData)},vss.length=qs.length->xss.length=qs.length->(∀ (j:Nat) (q:Addr) (vs:List V),qs[j]? = some q->vss[j]? = some vs->F2 q=some (.lst vs))->(∀ (j:Nat) vs xs,vss[j]? = some vs->xss[j]? = some xs->DatVs K F vs xs)->DatVs K F2 (qs.map V.ref) (xss.map PyData.list)
 | [],_,[],_,_,_,_=>.nil
 | [],_,_::_,_,h,_,_=>by simp at h
 | q::qs,[],_,h,_,_,_=>by simp at h
 | q::qs,_,[],_,h,_,_=>by simp at h
 | q::qs,vs::vss,xs::xss,h1,h2,h3,h4=>.cons (.lst (SqL.of (h3 0 q vs rfl rfl)) ((h4 0 vs xs rfl rfl).same s)) (aBB s (by simpa using h1) (by simpa using h2) (fun j r ws e1 e2=>h3 (j+1) r ws (by simpa using e1) (by simpa using e2)) (fun j r ws e1 e2=>h4 (j+1) r ws (by simpa using e1) (by simpa using e2)))
theorem OwnL.done{c:Ct}{F H:Hp}{ρ:Sg}{σ:L2.St}{i:Nat}{p:Addr}{qs:List Addr}{vss:List (List V)}{xss:List (List PyData)}(h:OwnL c F H σ i p qs vss)(ab:Ab c ρ σ F H)(hn:jQ ρ=true)(hx:xss.length=qs.length)(hd:∀ (j:Nat) vs xs,vss[j]? = some vs->xss[j]? = some xs->DatVs c.K F vs xs) :
  ∃ F',aR F F'/\Ab c (ρ.set i (some (.d (.list (xss.map PyData.list))))) σ F' H:=by
 obtain ⟨F1,s1,ab1,k1,k2⟩:=aCW hn qs vss ab h.nd h.len h.q
 have fp:F1 p=none:=by rw[k2 p h.np];exact h.fp
 have ab2:=ab1.pub9 h.hp fp h.p0 (pG hn)
 have s2:aR F1 (upd F1 p (.lst (qs.map V.ref))):=aR.upd fp
 have ab3:=ab2.setA (i:=i) (a:=.d (.list (xss.map PyData.list))) (v:=.ref p) (.lst (SqL.of aY) (aBB (fun a o z=>s2 a o (s1 a o z)) h.len hx (fun j q vs e1 e2=>s2 _ _ (k1 j q vs e1 e2)) hd))
 rw[aA9 h.s] at ab3
 exact ⟨_,fun a o z=>s2 a o (s1 a o z),ab3⟩
def nS(fs:PyData->Sg->Option Sg)(fk fe:Sg->R PyData):List PyData->List (List PyData)->Sg->R (List (List PyData)×Sg)
 | [],xss,ρ=>.ok (xss,ρ)
 | y::t,xss,ρ=>(wC (fs y ρ)).bind fun ρ1=>if jQ ρ1=true then (fk ρ1).bind fun k=>(match k with
  | .int kk=>(match ixN xss.length kk with
   | some j=>(fe ρ1).bind fun x=>if (xss.getD j []).length < 16777216 then nS fs fk fe t (xss.set j (xss.getD j []++[x])) ρ1 else .bad
   | none=>.bad)
  | _=>.bad) else .bad
def aEE(i:Nat)(fi1 fi2:Sg->R (List PyData))(fs:PyData->Sg->Option Sg)(fk fe:Sg->R PyData):Sg->R Fw:=fun ρ=>(fi1 ρ).bind fun xs=>if i < ρ.length/\jQ (ρ.set i none)=true then (fi2 (ρ.set i none)).bind fun ys=>(nS fs fk fe ys (List.replicate xs.length []) (ρ.set i none)).bind fun r=>.ok (.nx (r.2.set i (some (.d (.list (r.1.map PyData.list)))))) else .bad
theorem aO8{c:Ct}{E:XK}{F H F1 H1 F2 H2:Hp}{α β:Type}{r:R α}{f:α->R β}{k:β->Prop}(h:Rk c E F H r fun a=>Rk c E F1 H1 (f a) k):Rk c E F2 H2 (r.bind f) k:=by
 cases r with
 | bad=>exact h
 | ok a=>exact h
 | ex e=>exact h
def aJK(i:Nat)(r:List (List PyData)×Sg):R Fw:=.ok (.nx (r.2.set i (some (.d (.list (r.1.map PyData.list))))))
def aJL(c:Ct)(E:XK)(F H:Hp)(D:iD)(fr:Sg->R Fw)(w:Fw):Prop:=Rk c E F H (match w with | .nx ρ'=>fr ρ'|w=>.ok w) (iK c F D)
section
variable{X:Cx}{c:Ct}{E:XK}{rest:List Stmt}{pos:Pos}
theorem aIH{st1 st2:Stmt}{i:Nat}{N:List Str}{js:List (Option Nat)}{scope:Scope}{tg elt:Expr}{fi1 fi2:Sg->R (List PyData)}{fs:PyData->Sg->Option Sg}{is:List Nat}{g:TG}{fk fe:Sg->R PyData}{fr:Sg->R Fw}
  (h1:PS X st1 (jR (rP X N scope js tg elt [] (tI c E fi1)) (jN i))) (hj:js[0]? = some none)
  (hb:∀ (cl:List (Str×Addr)) (C:Addr) (s:Shared) (H0:Hp) (fp:List Addr),PG (fO X N scope cl C s H0 fp) tg (jN 0)/\PE (fO X N scope cl C s H0 fp) elt (aME gG))
  (hg:Tg c g fs is) (hi:i∉is)
  (h2:PS X st2 (aGW (tI0 c E fi2) g (oX (tBM X.K "list" vT (tOp (rIx X.K) (gF i) (tV (bD c) c E fk)) (dY (tV (bZ c) c E fe) gG)))))
  (hr:mN X c E rest fr):mN X c E (st1::st2::rest) (aH (aEE i fi1 fi2 fs fk fe) fr):=PSs.imp (L2.aF h1 (L2.aF h2 hr)) fun D σ H ⟨ρ,F,ab,k⟩=>by
 have k1:=Rk.bind (Rk.bind k)
 refine ⟨ρ,F,ab,k1.imp fun xs _ q J B F1 H1 s1 sb yl=>?_⟩
 by_cases hn:i < ρ.length/\jQ (ρ.set i none)=true
 ·rw[if_pos hn] at q
  obtain ⟨hil,hno⟩:=hn
  refine aB7 (n:=xs.length) (fun m acc H'=>∃ F' qs,Ext F1 H1 F' H'/\acc=qs.map V.ref/\qs.length=m/\qs.Nodup/\∀ r∈qs,H1 r=none/\H' r=some (.lst [])/\F' r=none) yl.len ⟨F1,[],Ext.refl s1.fh,rfl,rfl,List.nodup_nil,fun r hr=>by simp at hr⟩ ?_ ?_ ?_ ?_ ?_
  ·rintro m acc H' _ ⟨F',qs,_,rfl,h,_⟩;rw[List.length_map,h];exact Nat.le_refl _
  ·rintro m acc H' hlt ⟨F',qs,e1,_⟩
   exact yl.go m F' H' e1.ff e1.fh (fun a o z=>e1.hh a o (sb a o z)) hlt
  ·rintro acc H' ⟨F',qs,e1,_⟩
   exact yl.stop F' H' e1.ff e1.fh (fun a o z=>e1.hh a o (sb a o z))
  ·rintro m v acc Ha Hb hlt ⟨F',qs,e1,rfl,hlen,nd,hq⟩ hy
   obtain ⟨F2,e2,rx⟩:=yl.yld m F' Ha v Hb xs[m] e1.ff e1.fh (fun a o z=>e1.hh a o (sb a o z)) hy (List.getElem?_eq_getElem hlt)
   intro cl C s H0 fp
   obtain ⟨hpg,hpe⟩:=hb cl C s H0 fp
   refine ⟨_,_,_,hpg,L2.kT,hpe,fun σ0 k0=>⟨aAG (is:=[0]) k0 List.length_set (fun j hj=>List.getElem?_set_ne (fun z=>hj (by simp[z]))) (fun j hj=>by rw[List.mem_singleton.mp hj];assumption),?_⟩⟩
   dsimp only[aMN]
   rw[if_pos rfl]
   refine ⟨Nat.zero_le _,fun r hr=>?_⟩
   have e3:Ext F2 Hb F2 (upd Hb r (.lst [])):=Ext.own e2.fh hr
   refine ⟨F2,qs++[r],e1.trans (e2.trans e3),by rw[List.map_append];rfl,by rw[List.length_append,hlen];rfl,?_,fun x hx=>?_⟩
   ·rw[List.nodup_append]
    refine ⟨nd,by simp,fun a ha b hb z=>?_⟩
    rw[List.mem_singleton] at hb
    subst hb z
    have:=e2.hh _ _ (hq a ha).2.1
    rw[hr] at this
    cases this
   ·rcases List.mem_append.mp hx with z|z
    ·obtain ⟨y1,y2,y3⟩:=hq x z
     have e23:=e2.trans e3
     exact ⟨y1,e23.hh _ _ y2,e23.stay y3 y2 (fun _ z=>nomatch z)⟩
    ·rw[List.mem_singleton.mp z]
     exact ⟨bT (e1.trans e2).hh hr,aY,bT e2.fh hr⟩
  ·rintro acc H2 ⟨F2,qs,e1,rfl,hlen,nd,hq⟩ p hp
   have e2:Ext F2 H2 F2 (upd H2 p (.lst (qs.map V.ref))):=Ext.own e1.fh hp
   have hpq:p∉qs:=fun z=>by have:=(hq p z).2.1;rw[hp] at this;cases this
   have hsl:i < σ.length:=by rw[<-ab.len];exact hil
   have ab2:Ab c (ρ.set i none) (σ.set i (some (.ref p))) F2 (upd H2 p (.lst (qs.map V.ref))):=((ab.ext s1).ext (e1.trans e2)).drop9 i (.ref p)
   have O2:OwnL c F2 (upd H2 p (.lst (qs.map V.ref))) (σ.set i (some (.ref p))) i p qs (List.replicate xs.length []):=by
    refine ⟨List.getElem?_set_self hsl,aY,bT e1.fh hp,bT (ab.ext s1).h0 (bT e1.hh hp),hpq,nd,by rw[List.length_replicate,hlen],fun j r vs h1 h2=>?_⟩
    obtain ⟨y1,y2,y3⟩:=hq r (List.mem_of_getElem? h1)
    rw[List.getElem?_replicate] at h2
    split at h2
    ·cases h2
     exact ⟨e2.hh _ _ y2,y3,bT (ab.ext s1).h0 y1⟩
    ·cases h2
   have sF:aR F F2:=fun a o z=>e1.ff a o (s1.ff a o z)
   show tI0 c E fi2 (σ.set i (some (.ref p))) (upd H2 p (.lst (qs.map V.ref))) _
   generalize ρ.set i none=ρ1 at *
   generalize σ.set i (some (.ref p))=σ1 at *
   generalize upd H2 p (.lst (qs.map V.ref))=H3 at *
   refine ⟨ρ1,F2,ab2,?_⟩
   refine (show Rk c E F2 H3 (fi2 ρ1) _ from Rk.bind q).imp fun ys _ q J F4 H4 s4 yl4=>?_
   refine ⟨fun m n σ' H'=>n=ys.length - m/\m<=ys.length/\∃ ρ' F' vss xss,aR F4 F'/\Ab c ρ' σ' F' H'/\OwnL c F' H' σ' i p qs vss/\xss.length=qs.length/\jQ ρ'=true/\(∀ (j:Nat) vs xs,vss[j]? = some vs->xss[j]? = some xs->DatVs c.K F' vs xs)/\Rk c E F' H' ((nS fs fk fe (ys.drop m) xss ρ').bind (aJK i)) (aJL c E F H D fr),⟨ys.length,by simp,Nat.zero_le _,ρ1,F4,List.replicate xs.length [],List.replicate xs.length [],cQ _,ab2.ext s4,O2.ext s4,by rw[List.length_replicate,hlen],hno,fun j vs xs h1 h2=>?_,q⟩,?_⟩
   ·rw[List.getElem?_replicate] at h1 h2
    split at h1
    ·rename_i hl
     rw[if_pos hl] at h2
     cases h1;cases h2;exact .nil
    ·cases h1
   ·rintro m n σ' H' ⟨rfl,hm,ρ',F',vss,xss,s5,ab5,O5,hxs,hno5,hd5,k5⟩
    by_cases hlt:m < ys.length
    ·refine .inr ⟨yl4.go m F' H' s5 ab5.fh j3 hlt,fun σ'' H''=>∃ ρ' F' vss xss,aR F4 F'/\Ab c ρ' σ'' F' H''/\OwnL c F' H'' σ'' i p qs vss/\xss.length=qs.length/\jQ ρ'=true/\(∀ (j:Nat) vs xs,vss[j]? = some vs->xss[j]? = some xs->DatVs c.K F' vs xs)/\Rk c E F' H'' ((nS fs fk fe (ys.drop (m+1)) xss ρ').bind (aJK i)) (aJL c E F H D fr),fun σ'' H'' w=>⟨ys.length - (m+1),by omega,rfl,hlt,w⟩,fun v H6 y=>?_⟩
     obtain ⟨F6,e6,rv⟩:=yl4.yld m F' H' v H6 ys[m] s5 ab5.fh j3 y (List.getElem?_eq_getElem hlt)
     have hdr:ys.drop m=ys[m]::ys.drop (m+1):=List.drop_eq_getElem_cons hlt
     rw[hdr] at k5
     unfold nS at k5
     cases hf:fs ys[m] ρ' with
     | none=>rw[hf] at k5;exact k5.elim
     | some ρ7=>
      rw[hf,fJ,R.bind_ok] at k5
      refine hg v ys[m] ρ' ρ7 σ' F6 H6 _ (ab5.ext e6) rv hf fun σ7 hl7 hk7 ab7=>?_
      have O7:OwnL c F6 H6 σ7 i p qs vss:=by
       have z:=O5.ext e6
       exact ⟨by rw[hk7 i hi];exact z.s,z.hp,z.fp,z.p0,z.np,z.nd,z.len,z.q⟩
      by_cases hno7:jQ ρ7=true
      ·rw[if_pos hno7] at k5
       refine ⟨.ref p,O7.s,ρ7,F6,ab7,?_⟩
       refine (show Rk c E F6 H6 (fk ρ7) _ from Rk.bind (Rk.bind k5)).imp fun kd _ k5 u F8 H8 e8 r8=>?_
       cases kd with
       | int kk=>
        dsimp only at k5
        obtain rfl:=a9.int_of r8
        have O8:=O7.ext e8
        cases hx:ixN xss.length kk with
        | none=>rw[hx] at k5;exact k5.elim
        | some j=>
         rw[hx] at k5
         have hjl:j < xss.length:=(vR hx).2.1
         have hjq:j < qs.length:=by omega
         have hjv:j < vss.length:=by rw[O8.len];exact hjq
         have eq:qs[j]? = some qs[j]:=List.getElem?_eq_getElem hjq
         have ev:vss[j]? = some vss[j]:=List.getElem?_eq_getElem hjv
         have ex:xss[j]? = some xss[j]:=List.getElem?_eq_getElem hjl
         obtain ⟨y1,y2,y3⟩:=O8.q j _ _ eq ev
         refine .inl ⟨p,qs.map V.ref,kk,V.ref qs[j],rfl,rfl,SqL.of O8.hp,?_,?_⟩
         ·unfold atI
          rw[List.length_map,<-hxs,hx]
          show (qs.map V.ref)[j]? = _
          rw[List.getElem?_map,eq];rfl
         ·refine ⟨.inl ⟨rfl,_,SqL.of y1⟩,ρ7,F8,ab7.ext e8,?_⟩
          refine (show Rk c E F8 H8 (fe ρ7) _ from Rk.bind k5).imp fun x _ k5 u F9 H9 e9 r9=>?_
          have O9:=O8.ext e9
          have ab9:=(ab7.ext e8).ext e9
          obtain ⟨z1,z2,z3⟩:=O9.q j _ _ eq ev
          have hgd:xss.getD j []=xss[j]:=by rw[List.getD_eq_getElem?_getD,ex];rfl
          rw[hgd] at k5
          by_cases hz:xss[j].length < 16777216
          ·rw[if_pos hz] at k5
           have eall:Ext F' H' F9 H9:=e6.trans (e8.trans e9)
           have dj:DatVs c.K F9 vss[j] xss[j]:=(hd5 j _ _ ev ex).same eall.ff
           refine ⟨qs[j],vss[j],u,rfl,rfl,z1,by rw[dj.length,dP];exact hz,?_⟩
           refine ⟨ρ7,F9,vss.set j (vss[j]++[u]),xss.set j (xss[j]++[x]),fun a o z=>eall.ff a o (s5 a o z),ab9.off9 z2 z3 (pG hno7),O9.put eq ev,by rw[List.length_set];exact hxs,hno7,fun l vs xs e1 e2=>?_,?_⟩
           ·rcases get_set e1 with ⟨e,w,_⟩|⟨ne,w⟩
            ·subst e w
             rw[List.getElem?_set_self hjl] at e2
             cases e2
             exact dj.append (.cons r9 .nil)
            ·rw[List.getElem?_set_ne ne] at e2
             exact (hd5 l vs xs w e2).same eall.ff
           ·exact aO8 k5
          ·rw[if_neg hz] at k5;exact k5.elim
       | _=>exact k5.elim
      ·rw[if_neg hno7] at k5;exact k5.elim
    ·have e:m=ys.length:=by omega
     subst e
     rw[List.drop_length] at k5
     refine .inl ⟨yl4.stop F' H' s5 ab5.fh j3,?_⟩
     obtain ⟨F9,s9,ab9⟩:=O5.done ab5 hno5 hxs hd5
     refine ⟨_,F9,ab9,?_⟩
     exact Rk.fw (H:=H) (fun a o z=>s9 a o (s5 a o (s4.ff a o (sF a o z)))) k5
 ·rw[if_neg hn] at q;exact q.elim
end
end Fl
namespace L2
open PySem PySem.Spec PyProof.Rows
def tChain3(r r' r'':R2)(ta tb tc td:TE):TE:=fun σ H Q=>ta σ H fun x H1=>tb σ H1 fun y H2=>r x y H2 fun z H3=>∃ k,z=.bl k /\
 (if k=true then tc σ H3 fun w' H4=>r' y w' H4 fun z H5=>∃ k,z=.bl k/\(if k=true then td σ H5 fun u H6=>r'' w' u H6 Q else Q (.bl false) H5) else Q (.bl false) H3)
theorem rA{X:Cx}{a b c d:Expr}{ta tb tc td:TE}{pos:Pos}{op op' op'':CmpOp}{r r' r'':R2}(ho:OpR X (compareOp op) r)(ho':OpR X (compareOp op') r')(ho'':OpR X (compareOp op'') r'')(ha:PE X a ta)(hb:PE X b tb)(hc:PE X c tc)(hd:PE X d td)
  (hm:lastMarks [op,op',op''] [b,c,d]=false:=by with_unfolding_all rfl):PT X (.Compare a [op,op',op''] [b,c,d] pos) (aDG (tChain3 r r' r'' ta tb tc td)):=by
 intro pins s σ H Q I h
 refine isTrue_chain (thn (ha pins s σ H _ I h) fun v s1 ⟨x,H1,I1,r1,q1⟩=>test_link (thn (hb pins s1 σ H1 _ I1 q1) fun u s2 ⟨y,H2,I2,r2,q2⟩=>
  thn (ho pins s2 σ H2 x y v u _ I2 r1 r2 q2) fun d s3 ⟨z,H3,I3,r3,k,e,q3⟩=>?_)) hm
 subst e
 cases r3
 refine wpAny_truthy_bool ?_
 cases k with
 | false=>
  obtain ⟨k',e',q'⟩:=q3
  cases e'
  exact ite_ff ⟨H3,I3,q'⟩
 | true=>
  refine ite_tt (test_link (thn (hc pins s3 σ H3 _ I3 q3) fun w' s4 ⟨z',H4,I4,r4,q4⟩=>thn (ho' pins s4 σ H4 y z' u w' _ I4 r2 r4 q4) fun d' s5 zz0=>?_))
  obtain ⟨z2,H5,I5,r5,k2,e2,q5⟩:=zz0
  subst e2
  cases r5
  refine wpAny_truthy_bool ?_
  cases k2 with
  | false=>
   obtain ⟨k',e',q'⟩:=q5
   cases e'
   exact ite_ff ⟨H5,I5,q'⟩
  | true=>
   refine ite_tt (test_last (thn (hd pins s5 σ H5 _ I5 q5) fun w6 s6 ⟨z6,H6,I6,r6,q6⟩=>thn (ho'' pins s6 σ H6 z' z6 w' w6 _ I6 r4 r6 q6) fun d' s7 zz0=>?_))
   obtain ⟨z7,H7,I7,r7,k7,e7,q7⟩:=zz0
   subst e7
   cases r7
   exact wpAny_truthy_bool ⟨H7,I7,q7⟩
end L2
namespace Fl
open PySem L2 PyProof.Rows
def aEF(g g' g'':PyData->PyData->R PyData)(fa fb fc fd:Sg->R PyData):Sg->R PyData:=fun ρ=>(fa ρ).bind fun x=>(fb ρ).bind fun y=>(g x y).bind fun z=>(asB z).bind fun k=>if k=true then (eCh g' g'' (fun _=>.ok y) fc fd ρ) else .ok (.bool false)
section
variable{X:Cx}{c:Ct}{E:XK}{a b:Expr}{pos:Pos}
theorem aK9{g g' g'':PyData->PyData->R PyData}(hp:cM g)(hp':cM g')(hp'':cM g''){fa fb fc fd:Sg->R PyData}{σ:L2.St}{H:Hp}{Q:VK}(h:tV (bZ c) c E (aEF g g' g'' fa fb fc fd) σ H Q) :
  tChain3 (r2D (bD c) (bD c) (bZ c) g) (r2D (bD c) (bD c) (bZ c) g') (r2D (bD c) (bD c) (bZ c) g'') (tV (bD c) c E fa) (tV (bD c) c E fb) (tV (bD c) c E fc) (tV (bD c) c E fd) σ H Q:=by
 obtain ⟨ρ,F,ab,h⟩:=h
 refine ⟨ρ,F,ab,(Rk.bind h).imp fun x _ q v F1 H1 s1 rv=>?_⟩
 refine ⟨ρ,F1,ab.ext s1,((Rk.bind q).ext s1).imp fun y _ q u F2 H2 s2 ru=>?_⟩
 cases eg:g x y with
 | bad=>rw[eg] at q;exact q.elim
 | ex e=>exact absurd eg (hp x y e)
 | ok z=>
  rw[eg] at q
  refine ⟨H,H1,F2,x,y,z,s2.fh,a9.ext s2 rv,ru,eg,fun w F3 H3 s3 rw'=>?_⟩
  have s13:=(s1.trans s2).trans s3
  cases z with
  | bool k=>
   refine ⟨k,DatV.bl_of rw',?_⟩
   cases k with
   | false=>exact qD (Rk.ok q (.bl false) F3 H3 s13 (.bl false))
   | true=>
    have q':Rk c E F H ((fc ρ).bind fun w=>(g' y w).bind fun z=>(asB z).bind fun k=>if k=true then (fd ρ).bind fun u=>g'' w u else .ok (.bool false)) (fun d=>∀ v F' H',Ext F H F' H'->bZ c d v H F' H'->Q v H'):=q
    refine qE ⟨ρ,F3,ab.ext s13,((Rk.bind q').ext s13).imp fun w _ q v' F4 H4 s4 rw2=>?_⟩
    cases eg2:g' y w with
    | bad=>rw[eg2] at q;exact q.elim
    | ex e=>exact absurd eg2 (hp' y w e)
    | ok z2=>
     rw[eg2] at q
     refine ⟨H1,H3,F4,y,w,z2,s4.fh,a9.ext (s3.trans s4) ru,rw2,eg2,fun w' F5 H5 s5 r5=>?_⟩
     have s15:=(s13.trans s4).trans s5
     cases z2 with
     | bool k2=>
      refine ⟨k2,DatV.bl_of r5,?_⟩
      cases k2 with
      | false=>exact qD (Rk.ok q (.bl false) F5 H5 s15 (.bl false))
      | true=>
       have q':Rk c E F H ((fd ρ).bind fun u=>g'' w u) (fun d=>∀ v F' H',Ext F H F' H'->bZ c d v H F' H'->Q v H'):=q
       refine qE ⟨ρ,F5,ab.ext s15,((Rk.bind q').ext s15).imp fun u6 _ q v6 F6 H6 s6 rw6=>?_⟩
       cases eg3:g'' w u6 with
       | bad=>rw[eg3] at q;exact q.elim
       | ex e=>exact absurd eg3 (hp'' w u6 e)
       | ok z3=>
        rw[eg3] at q
        exact ⟨H3,H5,F6,w,u6,z3,s6.fh,a9.ext (s5.trans s6) rw2,rw6,eg3,fun w' F7 H7 s7 r7=>Rk.ok q w' F7 H7 ((s15.trans s6).trans s7) r7⟩
     | _=>exact False.elim q
  | _=>exact False.elim q
theorem rA{op op' op'':CmpOp}{g g' g'':PyData->PyData->R PyData}{cc dd:Expr}{fa fb fc fd:Sg->R PyData}(ho:OpR X (compareOp op) (r2D (bD c) (bD c) (bZ c) g))(hp:cM g)(ho':OpR X (compareOp op') (r2D (bD c) (bD c) (bZ c) g'))(hp':cM g')(ho'':OpR X (compareOp op'') (r2D (bD c) (bD c) (bZ c) g''))(hp'':cM g'')
  (ha:PR X c E a fa) (hb:PR X c E b fb) (hc:PR X c E cc fc) (hd:PR X c E dd fd) (hm:lastMarks [op,op',op''] [b,cc,dd]=false:=by with_unfolding_all rfl):PTf X c E (.Compare a [op,op',op''] [b,cc,dd] pos) (e1 asB (aEF g g' g'' fa fb fc fd)):=
 PT.imp (L2.rA ho ho' ho'' ha hb hc hd hm) fun σ H Q h=>aK9 hp hp' hp'' (rT h)
end
end Fl
namespace Zp
open PySem L2
end Zp
namespace Fl
open PySem L2 PyProof.Rows
end Fl
namespace Zp
open PySem
structure Jk(s0:Heap)(d it S:Addr)(ar:Array DictEntry)(ep:Nat)(acc:Array Value)(h:Heap):Prop where
 size:acc.size<=ar.size
 told:acc.toList=(ar.toList.take acc.size).map (·.key)
 iter:h.IsKeyIter it d acc.size ar.size ep
 raw:Raw h d ar ep
 keep:∀ c o,c≠it->c≠S->s0.get? c=some o->h.get? c=some o
end Zp
namespace Zp
open PySem
end Zp
namespace L2
open PySem PySem.Spec PyProof.Rows
section
variable{X:Cx}
def aCX:V->List V->Hp->VK->Prop:=fun x vs H Q=>∃ l xs i y,x=.ref l/\vs=[.int i,y]/\H l=some (.lst xs)/\0<=i/\i < 2 ^ 63/\xs.length < sizeLine/\Q .non (upd H l (.lst (xs.take (min i.toNat xs.length)++y::xs.drop (min i.toNat xs.length))))
theorem xX:MtM X "list.insert" aCX:=by
 intro pins s σ H x vs v us Q I rx rv h
 obtain ⟨l,xs,i,y,rfl,rfl,hH,h1,h2,hz,q⟩:=h
 cases rx
 cases rv with
 | cons ri rr=>
  obtain ⟨t,rfl⟩:=ri
  obtain ⟨u,rfl,ru⟩:=bJ.one rr
  obtain ⟨z,its,n,r,hl,e⟩:=I.lstM hH
  refine call_meets F.slot_list_insert ⟨_,e,rfl⟩ F.entry_list_insert (F.args_list_insert_3 _ _ _)
   (AutoSeq1.list_insert_list_int_val_1 l its.toArray n i t u (by rw[fitsIndex_both (by omega) h2];exact Bool.false_ne_true) (by rw[List.size_toArray];omega)) ⟨e,?_⟩
  refine ⟨.non,_,I.lset (its':=its.take (min i.toNat its.length)++u::its.drop (min i.toNat its.length)) hH e ?_ ?_ ?_,rfl,q⟩
  ·show (its.toArray.extract 0 (if i < 0 then (i+(its.toArray.size:Int)).toNat else min i.toNat its.toArray.size)).push u++its.toArray.extract (if i < 0 then (i+(its.toArray.size:Int)).toNat else min i.toNat its.toArray.size)=_
   rw[if_neg (by omega),List.size_toArray]
   apply Array.toList_inj.mp
   simp
   exact List.take_of_length_le (by simp)
  ·rw[hl]
   exact (r.take _).append (.cons ru (r.drop _))
  ·rw[List.length_append,List.length_cons,List.length_take,List.length_drop]
   omega
end
end L2
namespace Fl
open PySem L2 PyProof.Rows
theorem DatVs.takeN{K:Frag}{F:Hp}:∀ {vs:List V} {xs:List PyData} (j:Nat),DatVs K F vs xs->DatVs K F (vs.take j) (xs.take j)
 | _,_,0,_=>by rw[List.take_zero,List.take_zero];exact .nil
 | _,_,j+1,.nil=>by rw[List.take_nil,List.take_nil];exact .nil
 | _,_,j+1,.cons h t=>.cons h (DatVs.takeN j t)
theorem DatVs.dropN{K:Frag}{F:Hp}:∀ {vs:List V} {xs:List PyData} (j:Nat),DatVs K F vs xs->DatVs K F (vs.drop j) (xs.drop j)
 | _,_,0,h=>h
 | _,_,j+1,.nil=>by rw[List.drop_nil,List.drop_nil];exact .nil
 | _,_,j+1,.cons _ t=>DatVs.dropN j t
theorem DatVs.eraseN{K:Frag}{F:Hp}:∀ {vs:List V} {xs:List PyData} (j:Nat),DatVs K F vs xs->DatVs K F (vs.eraseIdx j) (xs.eraseIdx j)
 | _,_,_,.nil=>.nil
 | _,_,0,.cons _ t=>t
 | _,_,j+1,.cons h t=>.cons h (DatVs.eraseN j t)
def dPow:PyData->PyData->R PyData
 | .int i,.int j=>if 0<=j/\j<=1000000/\i.natAbs < 2 ^ 64 then .ok (.int (i ^ j.toNat)) else .bad
 | _,_=>.bad
section
variable{X:Cx}{c:Ct}{E:XK}{st:Stmt}
theorem aLA:OpR X (binaryOp .Pow) (r2D (bD c) (bD c) (bZ c) dPow):=kC aL9 (fun _ _ _=>.int _) fun a b d h=>by
 unfold dPow at h;split at h
 ·split at h
  · rename_i hc; cases h; exact ⟨_, _, rfl, rfl, hc, rfl⟩
  · cases h
 ·cases h
theorem aGF:cM dPow:=by intro a b e h;unfold dPow at h;split at h<;>(try split at h)<;>cases h
def m4(i:Nat)(f:Sg->R PyData):Sg->R Fw:=fun ρ=>match ρ[i]? with
 | some (some (.l xs))=>(f ρ).bind fun x=>match x with
  | .int k=>if 0<=k/\k < xs.length/\k < 2 ^ 63 then .ok (.nx (ρ.set i (some (.l (xs.eraseIdx k.toNat))))) else .bad
  | _=>.bad
 | _=>.bad
def tQ(i:Nat)(f g:Sg->R PyData):Sg->R Fw:=fun ρ=>match ρ[i]? with
 | some (some (.l xs))=>(f ρ).bind fun x=>(g ρ).bind fun y=>match x with
  | .int k=>if 0<=k/\k < 2 ^ 63/\xs.length < 16777216 then .ok (.nx (ρ.set i (some (.l (xs.take (min k.toNat xs.length)++y::xs.drop (min k.toNat xs.length)))))) else .bad
  | _=>.bad
 | _=>.bad
end
end Fl
namespace Fl
open PySem L2 PyProof.Rows
def BxK(c:Ct)(E':XK)(σ:L2.St)(D:iD)(F H:Hp):R Unit->Prop
 | .bad=>False
 | .ok _=>∀ F' H',Ext F H F' H'->D.nx σ H'
 | .ex e=>∀ a C F' H',Ext F H F' H'->o5 c.K c.mg F' e a C->E' (.ref C) (some a) H'
theorem BxK.ext{c:Ct}{E':XK}{σ:L2.St}{D:iD}{F H F1 H1:Hp}(s:Ext F H F1 H1):∀ {r:R Unit},BxK c E' σ D F H r->BxK c E' σ D F1 H1 r
 | .bad,h=>h
 | .ok _,h=>fun F' H' e=>h F' H' (s.trans e)
 | .ex _,h=>fun a C F' H' e=>h a C F' H' (s.trans e)
end Fl
namespace Fl
open PySem L2 PyProof.Rows
theorem aII{x:Const}{es:List Expr}{k:Nat}{p:Pos}{env:Env}:starEach (.Constant x k p::es) env=(false,eval (.Constant x k p) env)::starEach es env:=by rfl
def aQC:PyData->PyData->R PyData
 | .bool a,.bool b=>.ok (.bool (a == b))
 | _,_=>.bad
end Fl
namespace L2
open PySem PySem.Spec PyProof.Rows
theorem aLB{prog:Program}{w:World}{A:Around}{E:Value->Shared->Prop}{s:Shared}{l:Addr}{items:Array Value}{k:Nat}{x:Int}{u:Tok}{Q:Value->Shared->Prop}
  (hl:s.heap.get? l=some {cls:=.type "list",dict:=none,data:=.seq items k,slots:=#[]})
  (hlo : -(2 ^ 63:Int)<=x) (hhi:x < 2 ^ 63) (hsz:items.size * x.toNat<=2 ^ 24)
  (h:Q (.ref s.heap.objs.size) {s with heap:=s.heap.push {cls:=.type "list",data:=.seq (List.foldl (fun x1 x2=>x1++x2) #[] (List.replicate (if items.isEmpty=true then 0 else x.toNat) items))}}) :
  wpAny (model prog w) A (binaryOp .Mult (.ref l) (.int x u)) Q E s:=
 wpAny_binaryOp_repeat_ref (T:="list") (U:="int") (by decide) ⟨_,hl,rfl⟩ (fun s'=>typeIs_int s' x u) noFill_list_mul F.fills_int_mul F.slot_int_rmul repeat_list F.slot_int_index.lookup
  (call_meets F.slot_int_rmul (typeIs_int s x u) F.entry_int_rmul (F.args_int_rmul_2 _ _) (int___rmul___int_list x u l items k)
   ⟨hl,rfl,⟨_,hl,rfl⟩,call_meets F.slot_list_mul ⟨_,hl,rfl⟩ F.entry_list_mul (F.args_list_mul_2 _ _)
    (AutoListH.list___mul___list_int_3 l items k x u (by simp[Builtin.List.listFitsIndex];omega) (by omega) (by simp[Builtin.List.listTooLong,sizeLine];omega))
    ⟨hl,h⟩⟩)
def aO9:R2:=fun x y H Q=>∃ p vs i,x=.ref p/\y=.int i/\H p=some (.lst vs)/\vs≠[] /\ -(2 ^ 63:Int)<=i/\i < 2 ^ 63/\vs.length * i.toNat<=16777216/\∀ r,H r=none->Q (.ref r) (upd H r (.lst (List.replicate i.toNat vs).flatten))
theorem aLC{X:Cx}:OpR X (binaryOp .Mult) aO9:=by
 intro pins s σ H v u x y Q I rx ry h
 obtain ⟨p,vs,i,rfl,rfl,hp,hne,h1,h2,h3,q⟩:=h
 cases rx
 obtain ⟨t,rfl⟩:=ry
 obtain ⟨z,its,n,r,hl⟩:=(show cS X.prog X.w H s.heap p (.lst vs) from I.hok p _ hp)
 have hlen:its.length=vs.length:=r.length.symm
 refine aLB (items:=its.toArray) hl h1 h2 (by rw[List.size_toArray,hlen];exact h3) ?_
 have hem:its.toArray.isEmpty=false:=by
  cases its with
  | nil=>cases vs with
   | nil=>exact absurd rfl hne
   | cons _ _=>cases hlen
  | cons _ _=>rfl
 have ea:=aCN its i.toNat []
 rw[List.nil_append] at ea
 rw[hem,if_neg (by decide),show (#[]:Array Value)=([]:List Value).toArray from rfl,ea]
 exact ⟨.ref _,_,I.lnew (t':=s.toks) (Fl.aAP r _) (by rw[aJ8];have:sizeLine=16777216:=rfl;rw[Nat.mul_comm] at h3;omega),rfl,q _ I.fresh⟩
end L2
namespace Fl
open PySem L2 PyProof.Rows
def uU(xs:List PyData):PyData->R (List PyData)
 | .int i=>if xs≠[] /\ -(2 ^ 63:Int)<=i/\i < 2 ^ 63/\xs.length * i.toNat<=16777216 then .ok (List.replicate i.toNat xs).flatten else .bad
 | _=>.bad
def y4(f:Sg->R (List PyData))(g:Sg->R PyData):Sg->R (List PyData):=fun ρ=>(f ρ).bind fun xs=>(g ρ).bind fun y=>uU xs y
section
variable{X:Cx}{c:Ct}{E:XK}{a b:Expr}{pos:Pos}
theorem aLD{fa:Sg->R (List PyData)}{fb:Sg->R PyData}(ha:PN X c E a fa)(hb:PR X c E b fb):PN X c E (.BinOp a .Mult b pos) (y4 fa fb):=PE.imp (aI2 aLC ha hb) fun σ H Q ⟨ρ,F,ab,k⟩=>by
 refine ⟨ρ,F,ab,(Rk.bind k).imp fun xs _ q v F1 H1 s1 r1=>?_⟩
 obtain ⟨p,vs,rfl,e1,e2,e3,e4⟩:=r1
 refine ⟨ρ,F1,ab.ext s1,((Rk.bind q).ext s1).imp fun y _ q u F2 H2 s2 r2=>?_⟩
 cases y with
 | int i=>
  unfold uU at q
  dsimp only at q
  split at q
  ·rename_i hz
   obtain rfl:=a9.int_of r2
   refine ⟨p,vs,i,rfl,rfl,s2.hh _ _ e2,fun z=>hz.1 ?_,hz.2.1,hz.2.2.1,by rw[e4.length];exact hz.2.2.2,fun r hr=>?_⟩
   ·have:=e4.length
    rw[z] at this
    exact List.length_eq_zero_iff.mp this.symm
   ·exact Rk.ok q (.ref r) F2 _ ((s1.trans s2).trans (Ext.own s2.fh hr)) ⟨r,_,rfl,bT (s1.trans s2).hh hr,aY,bT s2.fh hr,xO (e4.same s2.ff) _⟩
  ·exact q.elim
 | _=>exact q.elim
end
def iY:PyData->PyData->R PyData
 | .tuple xs,.tuple ys=>if xs.length+ys.length<=sizeLine then .ok (.tuple (xs++ys)) else .bad
 | _,_=>.bad
theorem pH:cM iY:=by
 intro a b e h
 unfold iY at h
 split at h<;>(try split at h)<;>cases h
theorem tR{X:Cx}{c:Ct}(hK:X.K=c.K):OpR X (binaryOp .Add) (r2D (bD c) (bD c) (bZ c) iY):=by
 intro pins s σ H v u x y Q I rx ry h
 obtain ⟨H0,H1,F,a,b,d,sf,ra,rb,eg,q⟩:=h
 unfold iY at eg
 split at eg
 ·rename_i xs ys
  split at eg
  ·rename_i hz
   cases eg
   obtain ⟨pa,vs,rfl,fa,ha,da⟩:=a9.tup_of sf ra
   obtain ⟨pb,us,rfl,fb,hb,db⟩:=a9.tup_of sf rb
   rw[<-hK] at ha hb
   by_cases hv:vs=[]
   ·subst hv
    obtain rfl:xs=[]:=by cases da;rfl
    cases rx
    cases ry
    obtain ⟨its,r1,p1,_⟩:=I.tuple ha
    obtain ⟨its2,r2,p2,_⟩:=I.tuple hb
    cases r1
    obtain ⟨⟨cls,dd,data,sl⟩,ho,hc,n,hd⟩:=id p1
    obtain ⟨⟨cls2,dd2,data2,sl2⟩,ho2,hc2,n2,hd2⟩:=id p2
    simp only at hc hd hc2 hd2
    subst hc hd hc2 hd2
    exact concat_meets ⟨_,ho,rfl⟩ ⟨_,ho2,rfl⟩ noFill_tuple_add seq_tuple_add PySem.F.slot_tuple_add PySem.F.entry_tuple_add (PySem.F.args_tuple_add_2 _ _)
     (tuple_addW0 pa pb _ _ n n2 dd dd2 sl sl2 rfl) ⟨ho,ho2,.ref pb,H,I,rfl,q _ F H (Ext.refl sf) (.tup fb db)⟩
   ·refine aB3 pins s σ H _ _ x y Q I rx ry ⟨pa,pb,vs,us,rfl,rfl,ha,hb,hv,by rw[da.length,db.length];exact hz,fun z=>?_,fun z p hp=>?_⟩
    ·subst z
     obtain rfl:ys=[]:=by cases db;rfl
     exact q _ F H (Ext.refl sf) (by rw[List.append_nil];exact .tup fa da)
    ·exact q _ _ _ (Ext.new sf hp) (.tup (SqT.of aY) ((da.append db).same (aR.upd (bT sf hp))))
  ·cases eg
 ·cases eg
def dIsntB:PyData->PyData->R PyData
 | .bool a,.bool b=>.ok (.bool (a != b))
 | _,_=>.bad
theorem aBW:cM dIsntB:=by intro a b e h;unfold dIsntB at h;split at h<;>cases h
theorem aGG{X:Cx}{c:Ct}:OpR X (compareOp .IsNot) (r2D (bD c) (bD c) (bZ c) dIsntB):=by
 intro pins s σ H v u x y Q I rx ry h
 obtain ⟨H0,H1,F,a,b,d,sf,ra,rb,eg,q⟩:=h
 unfold dIsntB at eg
 split at eg
 ·cases eg
  obtain rfl:=a9.bl_of ra
  obtain rfl:=a9.bl_of rb
  cases rx
  cases ry
  exact isnot_bool ⟨.bl _,H,I.tok _,rfl,q _ F H (Ext.refl sf) (.bl _)⟩
 ·cases eg
end Fl
namespace Mc
open PySem L2 PyProof.Rows Fl
noncomputable def pN:Sg->R Fw:=(bN (vD (eC (.bool true))))
noncomputable def hV:List A->R A:=fnF 1 pN
noncomputable def pO:Sg->R Fw:=(bN (vD (cO (aB (eC (.str "by")) (aB (eOF 0 ["LetBy","ShutOut"] "borders") aO)))))
noncomputable def hX:List A->R A:=fnF 1 pO
noncomputable def nU:Sg->R Fw:=(bN (vD (eC (.bool true))))
noncomputable def gB:List A->R A:=fnF 1 nU
noncomputable def nV:Sg->R Fw:=(bN (vD (cO (aB (eC (.str "out")) (aB (eOF 0 ["LetBy","ShutOut"] "borders") aO)))))
noncomputable def gC:List A->R A:=fnF 1 nV
noncomputable def nW:Sg->R Fw:=(bN (vD (eC (.bool false))))
noncomputable def gD:List A->R A:=fnF 1 nW
noncomputable def nX:Sg->R Fw:=(bN (vD (cO (aB (eC (.str "ever")) (aB (eOF 0 ["LetBy","ShutOut","ForEver"] "place") (aB (eOF 0 ["LetBy","ShutOut","ForEver"] "room") (aB (eOF 0 ["ForEver"] "first") (aB (eOF 0 ["ForEver"] "again") aO))))))))
noncomputable def gE:List A->R A:=fnF 1 nX
noncomputable def m6:Sg->R Fw:=(aH (aEE 2 (fB (e2 bM (e1 dLen (rV 1)) (eC (.int 1)))) (e2 aAT (eV 0) (eSl dSl (rV 0) (oSo (eC (.int 1))) oNo)) (stT [(stN 3),(stN 4)]) (e2 (d2 eQ) (e2 dIx (rV 3) (eC (.int 0))) (e2 dIx (rV 4) (eC (.int 0)))) (e2 dIx (rV 4) (eC (.int 1))))
 (bN (vD (e1 dTup (eL (lF [none] (e1 eM (rV 2)) (stN 0) mQ (e1 dTup (rV 0))))))))
noncomputable def gT:List A->R A:=fnF 5 m6
noncomputable def aBC:Sg->R Fw:=(aH (bB 2 (bA 2 mT (aB (vV 0) (aB (vV 1) aO))))
 (aH (bB 3 (vD (e2 dIx (rV 2) (e1 dNeg (eC (.int 1))))))
 (aH (bB 4 (vD (e2 dIx (eA (bA 3 gX (aB (vV 0) (aB (vV 1) (aB (vV 3) aO))))) (eC (.int 0)))))
 (aH (sIf (e1 asB (e2 dEq (rV 4) (eC (.str "by")))) (bN (wJ "LetBy" ["place","room","borders"] (aB (e2 dIx (rV 3) (eC (.int 0))) (aB (e2 dIx (rV 3) (eC (.int 1))) (aB (eA (bA 2 gT (aB (vV 2) (aB (vV 1) aO)))) aO))))) sNx)
 (aH (sIf (e1 asB (e2 dEq (rV 4) (eC (.str "out")))) (bN (wJ "ShutOut" ["place","room","borders"] (aB (e2 dIx (rV 3) (eC (.int 0))) (aB (e2 dIx (rV 3) (eC (.int 1))) (aB (eA (bA 2 gT (aB (vV 2) (aB (vV 1) aO)))) aO))))) sNx)
 (bN (wJ "ForEver" ["place","room","first","again"] (aB (e2 dIx (rV 3) (eC (.int 0))) (aB (e2 dIx (rV 3) (eC (.int 1))) (aB (aED (rV 2) (rV 3)) (aB (e2 dSub (e1 dLen (rV 2)) (eC (.int 1))) aO)))))))))))
noncomputable def rB:List A->R A:=fnF 5 aBC
noncomputable def uV:Sg->R Fw:=(aH (sIf (e1 asB (e2 dLt (rV 2) (e1 dLen (rV 0)))) (bN (vD (e2 dIx (rV 0) (rV 2)))) sNx)
 (bN (vD (e2 dIx (rV 0) (e2 bM (eOF 1 ["ForEver"] "first") (e2 dMod (e2 dSub (rV 2) (eOF 1 ["ForEver"] "first")) (e2 dSub (eOF 1 ["ForEver"] "again") (eOF 1 ["ForEver"] "first"))))))))
noncomputable def l9:List A->R A:=fnF 3 uV
noncomputable def rC:Sg->R Fw:=(aH (bB 4 (vD (e2 dIx (rV 3) (eC (.int 3)))))
 (aH (bB 5 (vD (e2 dIx (rV 3) (eC (.int 4)))))
 (aH (sIf (aAC (e1 asB (aEF dLe dLt dLe (eC (.int 0)) (rV 4) (rV 5) (e2 dMul (e1 dLen (rV 0)) (e2 bM (e1 dLen (rV 1)) (eC (.int 2))))))) (bN (vD (eC (.bool false)))) sNx)
 (aH (bB 6 (bA 2 mT (aB (vV 0) (aB (vV 1) aO))))
 (aH (bB 7 (vD (cO (aB (e2 dIx (rV 3) (eC (.int 1))) (aB (e2 dIx (rV 3) (eC (.int 2))) aO)))))
 (bN (vD (aAD (e2 dEq (eA (bA 3 l9 (aB (vV 6) (aB (vO 2) (aB (vV 4) aO))))) (rV 7)) (e2 dEq (eA (bA 3 l9 (aB (vV 6) (aB (vO 2) (aB (vV 5) aO))))) (rV 7))))))))))
noncomputable def m8:List A->R A:=fnF 8 rC
noncomputable def sC:Sg->R Fw:=(aH (bB 3 (bA 2 rB (aB (vV 0) (aB (vV 1) aO))))
 (aH (sIf (e1 asB (eA (vMt (vO 3) "stops" [("LetBy",hV),("ShutOut",gB),("ForEver",gD)]))) (bN (vD (e2 dEq (rV 2) (eA (vMt (vO 3) "paper" [("LetBy",hX),("ShutOut",gC),("ForEver",gE)]))))) sNx)
 (bN (vD (aAD (e2 dEq (e2 dIx (rV 2) (eC (.int 0))) (eC (.str "ever"))) (eA (bA 4 m8 (aB (vV 0) (aB (vV 1) (aB (vO 3) (aB (vV 2) aO)))))))))))
noncomputable def gU:List A->R A:=fnF 4 sC
noncomputable def oO:Sg->R Fw:=(aH (eH 2 (y4 (eP (aB (cO aO) aO)) (rV 1)))
 (aH (jT (mC (eC (.int 1)) (e1 dLen (rV 0))) (stN 3) (aH (bB 4 (vD (e2 (d2 eQ) (e2 dIx (e2 dIx (rV 0) (e2 dSub (rV 3) (eC (.int 1)))) (eC (.int 0))) (e2 dIx (e2 dIx (rV 0) (rV 3)) (eC (.int 0))))))
 (iC 2 (rV 4) (e2 iY (e2 dIx (rV 2) (rV 4)) (cO (aB (e2 dIx (e2 dIx (rV 0) (rV 3)) (eC (.int 1))) aO))))))
 (bN (vD (e1 dTup (rV 2))))))
noncomputable def iZ:List A->R A:=fnF 5 oO
end Mc
namespace Fl
open PySem L2 PyProof.Rows
def m9(F:Hp)(q:Addr):Hp:=fun a=>if a=q then none else F a
theorem xY(F:Hp)(q:Addr):m9 F q q=none:=if_pos rfl
theorem mF{F:Hp}{a q:Addr}(h:a≠q):m9 F q a=F a:=if_neg h
theorem xZ(F:Hp)(q:Addr):aR (m9 F q) F:=fun a o e=>by
 unfold m9 at e
 split at e
 · cases e
 · exact e
def nY(c:Ct)(F:Hp)(D:iD)(s0:Option (Option V)):Fw->Prop
 | .nx ρ=>∀ σ' F' H',σ'[0]? = s0->aR F F'->Ab c ρ σ' F' H'->D.nx σ' H'
 | _=>False
theorem nY.same{c:Ct}{F F1:Hp}{D:iD}{s0:Option (Option V)}(s:aR F F1):∀ {w:Fw},nY c F D s0 w->nY c F1 D s0 w
 | .nx ρ,h=>fun σ' F' H' e s' ab=>h σ' F' H' e (fun a o z=>s' a o (s a o z)) ab
 | .bk _,h=>h
 | .ct _,h=>h
 | .rt _,h=>h
theorem Rk.fw0{c:Ct}{E:XK}{F F1 H H1:Hp}{D:iD}{s0:Option (Option V)}{r:R Fw}(s:aR F F1)(k:Rk c E F H r (nY c F D s0)):Rk c E F1 H1 r (nY c F1 D s0):=by
 cases r with
 | bad=>exact k
 | ok w=>exact nY.same s k
 | ex e=>exact k
def tS0(c:Ct)(E:XK)(f:Sg->R Fw):TS:=fun D σ H=>∃ ρ F,Ab c ρ σ F H/\Rk c E F H (f ρ) (nY c F D (σ[0]?))
abbrev PS0(X:Cx)(c:Ct)(E:XK)(st:Stmt)(f:Sg->R Fw):Prop:=PS X st (tS0 c E f)
abbrev tS(X:Cx)(c:Ct)(E:XK)(st:List Stmt)(f:Sg->R Fw):Prop:=PSs X st (tS0 c E f)
theorem aJM{σ:L2.St}{i:Nat}{v:Option V}(h:i≠0):(σ.set i v)[0]? = σ[0]?:=List.getElem?_set_ne h
section
variable{X:Cx}{c:Ct}{E:XK}{st:Stmt}{rest:List Stmt}{pos:Pos}
theorem gI:tS X c E [] sNx:=PSs.imp L2.cK fun D σ H ⟨ρ,F,ab,k⟩=>Rk.ok k σ F H rfl (cQ F) ab
theorem eS{f:Sg->R Fw}(h:PS0 X c E st f):tS X c E [st] f:=L2.aS h
theorem cI{f g:Sg->R Fw}(h:PS0 X c E st f)(h2:tS X c E rest g):tS X c E (st::rest) (aH f g):=PSs.imp (L2.aF h h2) fun D σ H zz0=>by
 obtain ⟨ρ,F,ab,k⟩:=zz0
 refine ⟨ρ,F,ab,(Rk.bind k).imp fun w _ q=>?_⟩
 cases w with
 | nx ρ'=>
  intro σ' F' H' e s ab'
  refine ⟨ρ',F',ab',?_⟩
  rw[e]
  exact Rk.fw0 (H:=H) s q
 | bk ρ'=>exact q.elim
 | ct ρ'=>exact q.elim
 | rt a=>exact q.elim
theorem jM{q:Expr}{sa sb:List Stmt}{t:Sg->R Bool}{f g:Sg->R Fw}(hq:PTf X c E q t)(ha:tS X c E sa f)(hb:tS X c E sb g):PS0 X c E (.If q sa sb pos) (sIf t f g):=PS.imp (L2.dJ hq ha hb) fun D σ H zz0=>by
 obtain ⟨ρ,F,ab,k⟩:=zz0
 refine ⟨ρ,F,ab,(Rk.bind k).imp fun b _ q F' H' s=>?_⟩
 cases b with
 | true=>exact qE ⟨ρ,F',ab.ext s,Rk.fw0 s.ff q⟩
 | false=>exact qD ⟨ρ,F',ab.ext s,Rk.fw0 s.ff q⟩
theorem k8{i:Nat}{f:Sg->R A}(hi:i≠0)(h:PS X st (jR (tV (aD4 c) c E f) (jN i))):PS0 X c E st (bB i f):=PS.imp h fun D σ H ⟨ρ,F,ab,k⟩=>
 ⟨ρ,F,ab,(Rk.bind k).imp fun a _ q v F' H' s r=>Rk.ok q _ F' H' (aJM hi) s.ff ((ab.ext s).setA r)⟩
theorem pI{i:Nat}{f:Sg->R (List PyData)}(hi:i≠0)(h:PS X st (jR (tV (tF c) c E f) (jN i))):PS0 X c E st (eH i f):=PS.imp h fun D σ H ⟨ρ,F,ab,k⟩=>
 ⟨ρ,F,ab,(Rk.bind k).imp fun a _ q v F' H' s r=>Rk.ok q _ F' H' (aJM hi) s.ff (ab.setN s r)⟩
theorem k9{i:Nat}{f g:Sg->R PyData}(h:PS X st (jR (tV (bZ c) c E g) (sX (gF i) (tV (bD c) c E f) rO))):PS0 X c E st (iC i f g):=PS.imp h fun D σ H ⟨ρ,F,ab,k⟩=>by
 refine ⟨ρ,F,ab,(Rk.bind k).imp fun x _ q v F1 H1 s1 r1=>?_⟩
 split at q
 ·rename_i xs hi
  have ab1:=ab.ext s1
  obtain ⟨_,hp,p,vs,rfl,h2,h3,h4,h5⟩:=ab1.slot i _ hi
  refine ⟨_,hp,ρ,F1,ab1,((Rk.bind q).ext s1).imp fun k _ q u F2 H2 s2 r2=>?_⟩
  have ab2:=ab1.ext s2
  cases k with
  | int kk=>
   have q':Rk c E F H (match ixN xs.length kk with|some j=>R.ok (.nx (ρ.set i (some (.l (xs.set j x)))))|none=>.bad) (nY c F D (σ[0]?)):=q
   clear q
   split at q'
   ·rename_i j hj
    obtain rfl:=a9.int_of r2
    refine ⟨p,vs,kk,j,rfl,rfl,s2.hh _ _ h2,by rw[h5.length];exact hj,?_⟩
    exact Rk.ok q' σ F2 _ rfl (s1.trans s2).ff (ab2.putL hi hp (nP (DatV.same s2.ff r1) j (h5.same s2.ff)))
   ·exact q'.elim
  | _=>exact q.elim
 ·exact q.elim
theorem x0{i:Nat}{f:Sg->R PyData}(h:PS X st (oX (tBM X.K "list" aE3 (gF i) (dY (tV (bZ c) c E f) gG)))):PS0 X c E st (m4 i f):=PS.imp h fun D σ H ⟨ρ,F,ab,k⟩=>by
 unfold m4 at k
 split at k
 ·rename_i xs hi
  obtain ⟨v,hp,p,vs,rfl,h2,h3,h4,h5⟩:=ab.slot i _ hi
  refine ⟨_,hp,.inl ⟨rfl,vs,SqL.of h2⟩,ρ,F,ab,(Rk.bind k).imp fun x _ q u F1 H1 s1 r1=>?_⟩
  split at q
  ·rename_i kk _
   split at q
   ·rename_i hk
    cases r1
    have hl:vs.length=xs.length:=h5.length
    have hlt:kk.toNat < vs.length:=by omega
    refine ⟨p,vs,kk,kk.toNat,vs[kk.toNat],rfl,rfl,s1.hh _ _ h2,by omega,hk.2.2,?_,List.getElem?_eq_getElem hlt,?_⟩
    ·simp only[seqIndex?]
     rw[if_neg (show ¬ kk < 0 by omega),if_pos (by simp;omega)]
    ·exact Rk.ok q σ F1 _ rfl s1.ff ((ab.ext s1).putL hi hp (DatVs.eraseN _ (h5.same s1.ff)))
   ·exact q.elim
  ·exact q.elim
 ·exact k.elim
theorem aCY{i:Nat}{f g:Sg->R PyData}(h:PS X st (oX (tBM X.K "list" aCX (gF i) (dY (tV (bZ c) c E f) (dY (tV (bZ c) c E g) gG))))):PS0 X c E st (tQ i f g):=PS.imp h fun D σ H ⟨ρ,F,ab,k⟩=>by
 unfold tQ at k
 split at k
 ·rename_i xs hi
  obtain ⟨v,hp,p,vs,rfl,h2,h3,h4,h5⟩:=ab.slot i _ hi
  refine ⟨_,hp,.inl ⟨rfl,vs,SqL.of h2⟩,ρ,F,ab,(Rk.bind k).imp fun x _ q u F1 H1 s1 r1=>?_⟩
  have ab1:=ab.ext s1
  refine ⟨ρ,F1,ab1,((Rk.bind q).ext s1).imp fun y _ q w F2 H2 s2 r2=>?_⟩
  clear k
  split at q
  ·rename_i kk _ _
   split at q
   ·rename_i hk
    cases r1
    have hl:vs.length=xs.length:=h5.length
    have hz:xs.length < 16777216:=hk.2.2
    refine ⟨p,vs,kk,w,rfl,rfl,s2.hh _ _ (s1.hh _ _ h2),hk.1,hk.2.1,by rw[hl,dP];exact hz,?_⟩
    rw[hl]
    have d5:=(h5.same s1.ff).same s2.ff
    exact Rk.ok q σ F2 _ rfl (s1.trans s2).ff ((ab1.ext s2).putL hi hp ((DatVs.takeN _ d5).append (.cons r2 (DatVs.dropN _ d5))))
   ·exact q.elim
  ·exact q.elim
 ·exact k.elim
def tT(i:Nat)(f:Sg->R PyData)(x:PyData):Sg->R Sg:=fun ρ=>match ρ[i]? with
 | some (some (.l xs))=>(f ρ).bind fun k=>match k with
  | .int k=>match ixN xs.length k with
   | some j=>.ok (ρ.set i (some (.l (xs.set j x))))
   | none=>.bad
  | _=>.bad
 | _=>.bad
def aBD(i:Nat)(f:Sg->R PyData)(j:Nat)(g:Sg->R PyData)(e:Sg->R PyData):Sg->R Fw:=fun ρ=>(e ρ).bind fun w=>match w with
 | .tuple [x,y]=>(tT i f x ρ).bind fun ρ1=>(tT j g y ρ1).bind fun ρ2=>.ok (.nx ρ2)
 | _=>.bad
theorem aJN{i:Nat}{f:Sg->R PyData}{x:PyData}{v:V}{F H:Hp}{ρ:Sg}{σ:L2.St}{K:Sg->Prop}{Q:L2.St->Hp->Prop}(ab:Ab c ρ σ F H)(r:DatV c.K F v x)(k:Rk c E F H (tT i f x ρ) K)
  (q:∀ ρ' F' H',aR F F'->Ab c ρ' σ F' H'->K ρ'->Q σ H'):sX (gF i) (tV (bD c) c E f) rO v σ H Q:=by
 unfold tT at k
 split at k
 ·rename_i xs hi
  obtain ⟨_,hp,p,vs,rfl,h2,h3,h4,h5⟩:=ab.slot i _ hi
  refine ⟨_,hp,ρ,F,ab,(Rk.bind k).imp fun kk _ k u F2 H2 s2 r2=>?_⟩
  have ab2:=ab.ext s2
  cases kk with
  | int kk=>
   have k':Rk c E F H (match ixN xs.length kk with|some j=>R.ok (ρ.set i (some (.l (xs.set j x))))|none=>.bad) K:=k
   split at k'
   ·rename_i j hj
    obtain rfl:=a9.int_of r2
    refine ⟨p,vs,kk,j,rfl,rfl,s2.hh _ _ h2,by rw[h5.length];exact hj,?_⟩
    exact q _ F2 _ s2.ff (ab2.putL hi hp (nP (r.same s2.ff) j (h5.same s2.ff))) k'
   ·exact k'.elim
  | _=>exact k.elim
 ·exact k.elim
theorem aCZ{i j:Nat}{f g e:Sg->R PyData}(h:PS X st (jR (tV (bZ c) c E e) (aGV X.K 2 (yP (sX (gF i) (tV (bD c) c E f) rO) (yP (sX (gF j) (tV (bD c) c E g) rO) aDC)))))(hK:X.K=c.K):PS0 X c E st (aBD i f j g e):=PS.imp h fun D σ H ⟨ρ,F,ab,k⟩=>by
 refine ⟨ρ,F,ab,(Rk.bind k).imp fun w _ k v F1 H1 s1 r1=>?_⟩
 split at k
 ·rename_i x y
  obtain ⟨a,vs,rfl,t1,t2⟩:=DatV.tup_of r1
  obtain ⟨v1,vr,e1,d1,d2⟩:=t2.cons_of
  subst e1
  obtain ⟨v2,vr2,e2,d3,d4⟩:=d2.cons_of
  subst e2
  cases d4
  refine ⟨a,[v1,v2],rfl,by rw[hK];exact t1.same s1.fh,rfl,v1,[v2],rfl,?_⟩
  refine aJN (ab.ext s1) d1 ((Rk.bind k).ext s1) fun ρ2 F2 H2 s2 ab2 k2=>⟨v2,[],rfl,?_⟩
  refine aJN ab2 (d3.same s2) ((Rk.bind k2).imp fun _ _ z=>z) fun ρ3 F3 H3 s3 ab3 k3=>⟨rfl,?_⟩
  exact Rk.ok k3 σ F3 H3 rfl (fun b o z=>s3 b o (s2 b o (s1.ff b o z))) ab3
 ·exact k.elim
end
structure ExtM(F H:Hp)(p:Addr)(F' H':Hp):Prop where
 ff:aR F F'
 hh:aR (m9 H p) H'
 fh:aR F' H'
 nw:∀ a,F a=none->F' a≠none->nN (m9 H p) a
def spM(g:Gb)(K:Frag)(mg:Str->Option Value)(n:Nat)(G:List PyData->List A->R (List PyData)):Sp:=fun vs H Q E=>∃ F p us xs vt as,aR g.T F/\aR F H/\vs=.ref p::vt/\H p=some (.lst us)/\F p=none/\DatVs K F us xs/\AFs g K mg F as vt/\as.length+1=n/\match G xs as with
 | .ok xs'=>∀ us' F' H',ExtM F H p F' H'->H' p=some (.lst us')->F' p=none->DatVs K F' us' xs'->Q .non H'
 | _=>False
def nA(P:Program)(w:World)(K:Frag)(mg:Str->Option Value)(base:Heap)(T:Hp)(k:Nat)(x:Str)(ps:List Str)(G:List PyData->List A->R (List PyData)):Prop:=Calls P w K mg base (CXe P w) k x ps (spM (gOf P w K mg base T) K mg ps.length G)
def fnM(n:Nat)(fb:Sg->R Fw):List PyData->List A->R (List PyData):=fun xs as=>(fb (some (.l xs)::as.map some++List.replicate (n - (as.length+1)) none)).bind fun w=>match w with
 | .nx (some (.l xs')::_)=>.ok xs'
 | _=>.bad
theorem aGH{g:Gb}{cells:List (Str×Addr)}{cls:Str->Option ClSt}{K:Frag}{mg:Str->Option Value}{w:World}{F H:Hp}{as:List A}{vt:List V}{n:Nat}{p:Addr}{us:List V}{xs:List PyData}(s0:aR g.T F)(s:aR F H)(hp:H p=some (.lst us))(fp:F p=none)(hx:DatVs K F us xs)(h:AFs g K mg F as vt) :
  Ab ⟨K,mg,w,F,m9 H p,g,cells,cls⟩ (some (.l xs)::as.map some++List.replicate (n - (as.length+1)) none) (some (.ref p)::vt.map some++List.replicate (n - (vt.length+1)) none) F H where
 len:=by rw[List.cons_append,List.cons_append,List.length_cons,List.length_cons,List.length_append,List.length_append,List.length_map,List.length_map,List.length_replicate,List.length_replicate,h.len]
 fh:=s
 slot:=fun i a e=>by
  cases i with
  | zero=>cases e;exact ⟨.ref p,rfl,p,us,rfl,hp,fp,xY H p,hx⟩
  | succ i=>
   have e:(as.map some++List.replicate (n - (as.length+1)) none)[i]? = some (some a):=e
   obtain ⟨v,h1,h2⟩:=h.get (kE e)
   refine ⟨v,?_,AO.of h2⟩
   show (vt.map some++List.replicate (n - (vt.length+1)) none)[i]? = _
   have hi:i < vt.length:=(List.getElem?_eq_some_iff.mp h1).1
   rw[List.getElem?_append_left (by rw[List.length_map];exact hi),List.getElem?_map,h1];rfl
 apart:=fun i j a b hij e1 e2 o1 o2=>by
  have no:∀ (k:Nat) (a:A),(some (.l xs)::as.map some++List.replicate (n - (as.length+1)) none)[k+1]? = some (some a)->a.own=true->False:=fun k a e o=>by
   have e:(as.map some++List.replicate (n - (as.length+1)) none)[k]? = some (some a):=e
   obtain ⟨v,h1,h2⟩:=h.get (kE e)
   rw[AF.notOwn h2] at o
   cases o
  cases i with
  | zero=>
   cases j with
   | zero=>exact absurd rfl hij
   | succ j=>exact (no j b e2 o2).elim
  | succ i=>exact (no i a e1 o1).elim
 f0:=cQ F
 h0:=xZ H p
 n0:=fun a e n=>absurd e n
 t0:=s0
theorem wL{P:Program}{w:World}{K:Frag}{mg:Str->Option Value}{base:Heap}{T:Hp}{x:Str}{st:Stmt}{N ps:List Str}{k:Nat}{fb:Sg->R Fw}(D:DefAt K mg x st ps)(S:FnScope N ps (aM st))
  (hbody:∀ (f:Addr) (cdv:Value) (A:Around) (outer:List Env) (s:Shared) (H F:Hp) (E:XK) (H0:Hp),Room k (A.deeper (envOfC x (aM st) s.heap.objs.size f cdv))->
   tS ((i7 (CXe P w) P w K mg base N x (aM st) f cdv A outer s H E).fly E) ⟨K,mg,w,F,H0,gOf P w K mg base T,(envOfC x (aM st) s.heap.objs.size f cdv).cells,fun _=>none⟩ E (cC st) fb):nA P w K mg base T (k+1) x ps (fnM N.length fb):=by
 refine D.okX S (fun vs H Q E h=>?_) (fun f cdv A outer s H vs Q E hr h=>?_)
 ·obtain ⟨F,p,us,xs,vt,as,_,_,rfl,_,_,_,h2,h3,_⟩:=h
  rw[List.length_cons,h2.len,h3]
 ·obtain ⟨F,p,us,xs,vt,as,h0,h1,rfl,hp,fp,hx,h2,h3,h4⟩:=h
  refine ⟨_,hbody f cdv A outer s H F E (m9 H p) hr,_,F,aGH (n:=N.length) h0 h1 hp fp hx h2,?_⟩
  unfold fnM at h4
  cases e:fb (some (.l xs)::as.map some++List.replicate (N.length - (as.length+1)) none) with
  | bad=>rw[e] at h4;exact h4.elim
  | ex x=>rw[e] at h4;exact h4.elim
  | ok w=>
   rw[e,R.bind_ok] at h4
   cases w with
   | nx ρ'=>
    cases ρ' with
    | nil=>exact h4.elim
    | cons o ρ'=>
     cases o with
     | none=>exact h4.elim
     | some a=>
      cases a with
      | l xs'=>
       intro σ' F' H' e0 sF ab
       obtain ⟨v,hv,p',us',rfl,q1,q2,q3,q4⟩:=ab.slot 0 (.l xs') rfl
       rw[e0] at hv
       have hv:some (some (V.ref p))=some (some (V.ref p')):=hv
       cases hv
       exact h4 us' F' H' ⟨sF,ab.h0,ab.fh,ab.n0⟩ q1 q2 q4
      | _=>exact h4.elim
   | bk ρ'=>exact h4.elim
   | ct ρ'=>exact h4.elim
   | rt a=>exact h4.elim
def kK(i n:Nat)(G:List PyData->List A->R (List PyData))(fa:Sg->R (List A)):Sg->R Fw:=fun ρ=>match ρ[i]? with
 | some (some (.l xs))=>(fa ρ).bind fun as=>if as.length+1=n then (match G xs as with | .ok xs'=>.ok (.nx (ρ.set i (some (.l xs'))))|_=>.bad) else .bad
 | _=>.bad
theorem Ab.chgM{c:Ct}{ρ:Sg}{σ:L2.St}{F H F' H':Hp}{i:Nat}{xs xs':List PyData}{p:Addr}{us':List V}(b:Ab c ρ σ F H)(hi:ρ[i]? = some (some (.l xs)))(hp:σ[i]? = some (some (.ref p)))(e:ExtM F H p F' H')(q1:H' p=some (.lst us'))(q2:F' p=none)(q4:DatVs c.K F' us' xs'):Ab c (ρ.set i (some (.l xs'))) σ F' H':=by
 obtain ⟨_,hv,p0,us,e0,h2,h3,h4,h5⟩:=b.slot i _ hi
 rw[hp] at hv
 cases hv
 cases e0
 have other:∀ (j:Nat) (a:A) (w:V),j≠i->ρ[j]? = some (some a)->σ[j]? = some (some w)->AO c F H a w->AO c F' H' a w:=by
  intro j a2 w hj ha hw q2
  cases a2 with
  | l zs=>
   obtain ⟨r,ws,e1,z1,z2,z3,z4⟩:=q2
   have hr:r≠p:=fun z=>b.apart j i _ _ hj ha hi rfl rfl (by rw[hw,hp,e1,z])
   have z5:m9 H p r=some (.lst ws):=by rw[mF hr];exact z1
   refine ⟨r,ws,e1,e.hh _ _ z5,?_,z3,z4.same e.ff⟩
   cases q:F' r with
   | none=>rfl
   | some o=>
    rcases e.nw r z2 (by rw[q];exact fun z=>nomatch z) with z|⟨q',z⟩
    ·rw[z] at z5;cases z5
    ·rw[z] at z5;cases z5
  | m zs=>
   obtain ⟨r,ws,e1,⟨ep,z1⟩,z2,z3,z4⟩:=q2
   have hr:r≠p:=fun z=>b.apart j i _ _ hj ha hi rfl rfl (by rw[hw,hp,e1,z])
   have z5:m9 H p r=some (kA c.w r ws ep):=by rw[mF hr];exact z1
   refine ⟨r,ws,e1,⟨ep,e.hh _ _ z5⟩,?_,z3,z4.same e.ff⟩
   cases q:F' r with
   | none=>rfl
   | some o=>
    rcases e.nw r z2 (by rw[q];exact fun z=>nomatch z) with z|⟨q',z⟩
    ·rw[z] at z5;cases z5
    ·rw[z] at z5;exact (z8 (Option.some.inj z5).symm).elim
  | d x=>exact DatV.same e.ff q2
  | x er=>exact AF.same (g:=c.g) (K:=c.K) (mg:=c.mg) (a:=.x er) e.ff q2
  | g k n f=>exact AF.same (g:=c.g) (K:=c.K) (mg:=c.mg) (a:=.g k n f) e.ff q2
  | k S=>obtain ⟨S,f,cl,doc,pm,cc,ct,h0,h1,h2,h3,h4⟩:=q2;exact ⟨S,f,cl,doc,pm,cc,ct,h0,h1,e.ff _ _ h2,e.ff _ _ h3,h4⟩
  | f kvs=>exact AF.same (g:=c.g) (K:=c.K) (mg:=c.mg) (a:=.f kvs) e.ff q2
  | o er=>exact AF.same (g:=c.g) (K:=c.K) (mg:=c.mg) (a:=.o er) e.ff q2
 exact {
  len:=by rw[List.length_set];exact b.len
  fh:=e.fh
  slot:=fun j a h=>by
   rcases get_set h with ⟨e1,q,hl⟩|⟨ne,q⟩
   ·subst e1
    cases q
    exact ⟨_,hp,p,us',rfl,q1,q2,h4,q4⟩
   ·obtain ⟨w,hw,z⟩:=b.slot j a q
    exact ⟨w,hw,other j a w (Ne.symm ne) q hw z⟩
  apart:=fun j k a' b' hjk h1 h2 o1 o2=>by
   rcases get_set h1 with ⟨e1,q,hl⟩|⟨ne,q⟩
   ·subst e1
    cases q
    rcases get_set h2 with ⟨e',q',hl'⟩|⟨ne',q'⟩
    ·exact absurd e' hjk
    ·exact b.apart _ k _ b' hjk hi q' rfl o2
   ·rcases get_set h2 with ⟨e',q',hl'⟩|⟨ne',q'⟩
    ·subst e'
     exact b.apart j _ a' _ hjk q hi o1 rfl
    ·exact b.apart j k a' b' hjk q q' o1 o2
  f0:=fun a o z=>e.ff a o (b.f0 a o z)
  h0:=fun a o z=>e.hh a o (by
   by_cases w:a=p
   ·subst w;rw[h4] at z;cases z
   ·rw[mF w];exact b.h0 a o z)
  n0:=fun a z n=>by
   cases q:F a with
   | some o=>exact b.n0 a z (by rw[q];exact fun z=>nomatch z)
   | none=>
    by_cases w:a=p
    ·subst w;exact .inl h4
    ·have:=e.nw a q n
     unfold nN at this
     rw[mF w] at this
     exact nN.back b.h0 this
  t0:=b.t0}
section
variable{X:Cx}{c:Ct}{E:XK}{st:Stmt}
theorem tU{i n:Nat}{G:List PyData->List A->R (List PyData)}{g:Gb}{K:Frag}{mg:Str->Option Value}{fa:Sg->R (List A)}(hG:g=c.g)(hK:K=c.K)(hM:mg=c.mg)(h:PS X st (oX (t7 (spM g K mg n G) [] E (dY (gF i) (tAv c E fa))))):PSf X c E st (kK i n G fa):=PS.imp h fun D σ H ⟨ρ,F,ab,k⟩=>by
 subst hG hK hM
 unfold kK at k
 split at k
 ·rename_i xs hi
  obtain ⟨v,hp,p,us,rfl,h2,h3,h4,h5⟩:=ab.slot i _ hi
  refine ⟨_,hp,ρ,F,ab,(Rk.bind k).imp fun as _ q vs F1 H1 s1 r1=>?_⟩
  have ab1:=ab.ext s1
  by_cases hn:as.length+1=n
  ·rw[if_pos hn] at q
   refine ⟨F1,p,us,xs,vs,as,fun a o z=>s1.ff a o (ab.f0 a o (ab.t0 a o z)),s1.fh,by rw[List.append_nil],s1.hh _ _ h2,s1.stay h3 h2 (fun _ z=>nomatch z),h5.same s1.ff,r1,hn,?_⟩
   cases hg:G xs as with
   | bad=>rw[hg] at q;exact q
   | ex e=>rw[hg] at q;exact q
   | ok xs'=>
    rw[hg] at q
    intro us' F' H' e q1 q2 q4
    exact Rk.ok q σ F' H' (fun a o z=>e.ff a o (s1.ff a o z)) (ab1.chgM hi hp e q1 q2 q4)
  ·rw[if_neg hn] at q;exact q.elim
 ·exact k.elim
def pJ:A->Bool
 | .d (.int _)=>true
 | .d .none=>true
 | .d (.bool _)=>true
 | .d (.str _)=>true
 | _=>false
def oP(i n:Nat)(G:List A->R A)(fa:Sg->R (List A)):Sg->R A:=fun ρ=>match ρ[i]? with
 | some (some (.l xs))=>(fa ρ).bind fun as=>if as.length+1=n then (match G (.d (.list xs)::as) with | .ok a=>if pJ a=true then .ok a else .bad|_=>.bad) else .bad
 | _=>.bad
theorem aIJ{g:Gb}{K:Frag}{mg:Str->Option Value}{F F':Hp}{a:A}{v:V}(h:pJ a=true)(r:AF g K mg F a v):AF g K mg F' a v:=by
 cases a with
 | d x=>
  cases x with
  | int i=>obtain rfl:=DatV.int_of r;exact .int _
  | none=>obtain rfl:=(show v=.non by cases r;rfl);exact .non
  | bool i=>obtain rfl:=DatV.bl_of r;exact .bl _
  | str i=>obtain rfl:=(show v=.str i by cases r;rfl);exact .str _
  | _=>cases h
 | _=>cases h
theorem aGI{e:Expr}{i n:Nat}{G:List A->R A}{g:Gb}{K:Frag}{mg:Str->Option Value}{fa:Sg->R (List A)}(hG:g=c.g)(hK:K=c.K)(hM:mg=c.mg)(h:PE X e (t7 (spF g K mg n G) [] E (dY (gF i) (tAv c E fa)))):PV X c E e (oP i n G fa):=PE.imp h fun σ H Q ⟨ρ,F,ab,k⟩=>by
 subst hG hK hM
 unfold oP at k
 split at k
 ·rename_i xs hi
  obtain ⟨v,hp,p,us,rfl,h2,h3,h4,h5⟩:=ab.slot i _ hi
  refine ⟨_,hp,ρ,F,ab,(Rk.bind k).imp fun as _ q vs F1 H1 s1 r1=>?_⟩
  by_cases hn:as.length+1=n
  ·rw[if_pos hn] at q
   have fp:F1 p=none:=s1.stay h3 h2 (fun _ z=>nomatch z)
   have hp1:H1 p=some (.lst us):=s1.hh _ _ h2
   have sp:aR F1 (upd F1 p (.lst us)):=aR.upd fp
   refine ⟨upd F1 p (.lst us),.d (.list xs)::as,fun a o z=>sp a o (s1.ff a o (ab.f0 a o (ab.t0 a o z))),fun a o z=>?_,?_,hn,?_⟩
   ·by_cases w:a=p
    ·subst w;rw[aY] at z;rw[hp1];exact z
    ·rw[aP w] at z;exact s1.fh a o z
   ·rw[List.append_nil]
    exact ⟨.lst (SqL.of aY) ((h5.same s1.ff).same sp),r1.same sp⟩
   ·cases hg:G (.d (.list xs)::as) with
    | bad=>rw[hg] at q;exact q
    | ex e=>rw[hg] at q;exact q.elim
    | ok a=>
     rw[hg] at q
     have q':Rk c E F H (if pJ a=true then R.ok a else .bad) _:=q
     by_cases ha:pJ a=true
     ·rw[if_pos ha] at q'
      intro v F' H' s r
      have e:Ext F1 H1 (m9 F' p) H':=⟨s.hh,fun x o z=>by
        by_cases w:x=p
        ·subst w;rw[fp] at z;cases z
        ·rw[mF w];exact s.ff x o (by rw[aP w];exact z),
       fun x o z=>s.fh x o (xZ F' p x o z),fun x z n=>by
        by_cases w:x=p
        ·subst w;exact absurd (xY F' x) n
        ·rw[mF w] at n
         exact s.nw x (by rw[aP w];exact z) n⟩
      exact Rk.ok q' v _ H' (s1.trans e) (aIJ ha r)
     ·rw[if_neg ha] at q';exact q'.elim
  ·rw[if_neg hn] at q;exact q.elim
 ·exact k.elim
end
end Fl
namespace Mc
open PySem L2 PyProof.Rows Fl
noncomputable def lS:Sg->R Fw:=(aH (eH 2 (y4 (eP (aB (cO aO) aO)) (rV 1)))
 (aH (jT (mC (eC (.int 1)) (e1 dLen (rV 0))) (stN 3) (aH (bB 4 (vD (e2 (d2 eQ) (e2 dIx (e2 dIx (rV 0) (e2 dSub (rV 3) (eC (.int 1)))) (eC (.int 0))) (e2 dIx (e2 dIx (rV 0) (rV 3)) (eC (.int 0))))))
 (iC 2 (rV 4) (e2 iY (e2 dIx (rV 2) (rV 4)) (cO (aB (e2 dIx (e2 dIx (rV 0) (rV 3)) (eC (.int 1))) aO))))))
 (bN (vD (e1 dTup (rV 2))))))
noncomputable def dU:List A->R A:=fnF 5 lS
noncomputable def j0:Sg->R Fw:=(aH (bB 2 (bA 2 dI (aB (vV 0) (aB (vV 1) aO))))
 (aH (bB 3 (bA 2 jK (aB (vV 0) (aB (vV 1) aO))))
 (aH (sIf (e1 asB (e2 dEq (rV 3) (eC (.str "ever")))) (bN (vD (cO (aB (eV 3) (aB (e2 dIx (e2 dIx (rV 2) (e1 dNeg (eC (.int 1)))) (eC (.int 0))) (aB (e2 dIx (e2 dIx (rV 2) (e1 dNeg (eC (.int 1)))) (eC (.int 1))) (aB (aED (rV 2) (e2 dIx (rV 2) (e1 dNeg (eC (.int 1))))) (aB (e2 dSub (e1 dLen (rV 2)) (eC (.int 1))) aO)))))))) sNx)
 (bN (vD (cO (aB (eV 3) (aB (eA (bA 2 dU (aB (vV 2) (aB (vD (e2 bM (e1 dLen (rV 1)) (eC (.int 1)))) aO)))) aO))))))))
noncomputable def eU:List A->R A:=fnF 4 j0
noncomputable def nB:Sg->R Fw:=(aH (bB 1 (vD (e2 bM (eC (.int 1)) (e2 dMod (eA (bA 2 a8 (aB (vV 0) (aB (vD (eC (.int 0))) aO)))) (eC (.int 5))))))
 (aH (bB 2 (vD (e2 bM (eC (.int 1)) (e2 dMod (eA (bA 2 a8 (aB (vV 0) (aB (vD (eC (.int 1))) aO)))) (eC (.int 3))))))
 (aH (bB 3 (vD (e2 dMod (eA (bA 2 a8 (aB (vV 0) (aB (vD (eC (.int 2))) aO)))) (e2 dIx (eL (eP (aB (eC (.int 8)) (aB (eC (.int 8)) (aB (eC (.int 25)) (aB (eC (.int 57)) aO)))))) (e2 dMod (e2 dDiv (eA (bA 2 a8 (aB (vV 0) (aB (vD (eC (.int 1))) aO)))) (eC (.int 3))) (eC (.int 4)))))))
 (bN (vD (cO (aB (eA (bA 4 iO (aB (vV 0) (aB (vD (eC (.int 6))) (aB (vV 1) (aB (vV 2) aO)))))) (aB (eA (bA 4 jZ (aB (vV 0) (aB (vD (eC (.int 11))) (aB (vV 3) (aB (vV 2) aO)))))) aO))))))))
noncomputable def fS:List A->R A:=fnF 4 nB
noncomputable def lV:Sg->R Fw:=(aH (jT (fB (e1 dLen (rV 0))) (stN 2) (aH (bB 3 (vD (e2 dMod (e2 bM (rV 1) (rV 2)) (e1 dLen (rV 0)))))
 (sIf (e1 asB (e2 dGt (e1 dLen (e2 dIx (rV 0) (rV 3))) (eC (.int 0)))) (bN (vV 3)) sNx)))
 (bN (vD (eC .none))))
noncomputable def dX:List A->R A:=fnF 4 lV
noncomputable def fU:Sg->R Fw:=(aH (eH 4 (e1 dLst (e2 dIx (rV 0) (rV 1))))
 (aH (bB 5 (vD (e2 dMod (e2 dDiv (rV 2) (eC (.int 5))) (e1 dLen (rV 4)))))
 (aH (sIf (e1 asB (e2 dEq (e2 dMod (rV 2) (eC (.int 5))) (eC (.int 0)))) (iC 4 (rV 5) (e2 dMod (e2 bM (e2 bM (e2 dIx (rV 4) (rV 5)) (eC (.int 1))) (e2 dMod (e2 dDiv (rV 2) (eC (.int 64))) (eC (.int 3)))) (e2 bM (rV 3) (eC (.int 1))))) sNx)
 (aH (sIf (e1 asB (e2 dEq (e2 dMod (rV 2) (eC (.int 5))) (eC (.int 1)))) (m4 4 (eV 5)) sNx)
 (aH (sIf (e1 asB (e2 dEq (e2 dMod (rV 2) (eC (.int 5))) (eC (.int 2)))) (tQ 4 (eV 5) (e2 dIx (rV 4) (rV 5))) sNx)
 (aH (sIf (e1 asB (e2 dEq (e2 dMod (rV 2) (eC (.int 5))) (eC (.int 3)))) (iC 4 (rV 5) (e2 dIx (eL (eP (aB (e1 dNeg (eC (.int 1))) (aB (eV 3) (aB (e2 dSub (e2 dIx (rV 4) (rV 5)) (rV 3)) (aB (e2 dPow (eC (.int 10)) (eC (.int 30))) aO)))))) (e2 dMod (e2 dDiv (rV 2) (eC (.int 64))) (eC (.int 4))))) sNx)
 (aH (sIf (e1 asB (e2 dEq (e2 dMod (rV 2) (eC (.int 5))) (eC (.int 4)))) (eH 4 (eSl nSl (rV 4) oNo (oSo (rV 5)))) sNx)
 (iC 0 (rV 1) (e1 dTup (rV 4))))))))))
noncomputable def dB:List PyData->List A->R (List PyData):=fnM 6 fU
noncomputable def fY:Sg->R Fw:=(aH (bB 4 (vD (e2 dMod (e2 bM (e2 bM (rV 1) (eC (.int 1))) (e2 dMod (e2 dDiv (rV 2) (eC (.int 8))) (e1 dLen (rV 0)))) (e1 dLen (rV 0)))))
 (aH (bB 5 (vD (e2 dMod (rV 2) (eC (.int 4)))))
 (aH (sIf (e1 asB (e2 dEq (rV 5) (eC (.int 0)))) (aBD 0 (rV 1) 0 (rV 4) (cO (aB (e2 dIx (rV 0) (rV 4)) (aB (e2 dIx (rV 0) (rV 1)) aO)))) sNx)
 (aH (sIf (e1 asB (e2 dEq (rV 5) (eC (.int 1)))) (m4 0 (eV 1)) sNx)
 (aH (sIf (e1 asB (e2 dEq (rV 5) (eC (.int 2)))) (tQ 0 (eV 4) (e2 dIx (rV 0) (rV 1))) sNx)
 (sIf (e1 asB (e2 dEq (rV 5) (eC (.int 3)))) (aH (bB 6 (vD (e2 (d2 eQ) (e2 bM (rV 1) (eC (.int 1))) (e2 dSub (e1 dLen (rV 0)) (eC (.int 1))))))
 (aH (iC 0 (rV 1) (e2 iY (e2 dIx (rV 0) (rV 1)) (cO (aB (e2 dMod (e2 dDiv (rV 2) (eC (.int 8))) (rV 3)) aO))))
 (iC 0 (rV 6) (e2 iY (e2 dIx (rV 0) (rV 6)) (cO (aB (e2 dMod (e2 dDiv (rV 2) (eC (.int 64))) (rV 3)) aO)))))) sNx))))))
noncomputable def dE:List PyData->List A->R (List PyData):=fnM 7 fY
noncomputable def gJ:Sg->R Fw:=(aH (bB 3 (oP 0 2 dX (aB (vD (e2 bM (e2 bM (rV 1) (eC (.int 1))) (e2 dMod (rV 2) (e1 dLen (rV 0))))) aO)))
 (aH (eH 4 (e1 dLst (e2 dIx (rV 0) (rV 1))))
 (aH (bB 5 (vD (e2 dMod (e2 dDiv (rV 2) (eC (.int 64))) (e1 dLen (rV 4)))))
 (aH (eH 6 (e1 dLst (e2 dIx (rV 0) (rV 3))))
 (aH (bB 7 (vD (e2 dMod (e2 dDiv (rV 2) (eC (.int 4096))) (e1 dLen (rV 6)))))
 (aH (sIf (e1 asB (e2 dNe (rV 3) (rV 1))) (aH (aBD 4 (rV 5) 6 (rV 7) (cO (aB (e2 dIx (rV 6) (rV 7)) (aB (e2 dIx (rV 4) (rV 5)) aO))))
 (iC 0 (rV 3) (e1 dTup (rV 6)))) sNx)
 (iC 0 (rV 1) (e1 dTup (rV 4)))))))))
noncomputable def dM:List PyData->List A->R (List PyData):=fnM 8 gJ
noncomputable def jC:Sg->R Fw:=(aH (eH 1 (e1 dLst (rV 1)))
 (aH (bB 4 (vD (e2 dMod (rV 2) (eC (.int 7)))))
 (aH (bB 2 (vD (e2 dDiv (rV 2) (eC (.int 7)))))
 (aH (bB 5 (oP 1 2 dX (aB (vD (e2 dMod (rV 2) (eC (.int 64)))) aO)))
 (aH (bB 2 (vD (e2 dDiv (rV 2) (eC (.int 64)))))
 (aH (sIf (e1 asB (e2 dEq (rV 4) (eC (.int 0)))) (bB 0 (vD (e2 dIx (eL (eP (aB (eC (.str "by")) (aB (eC (.str "out")) aO)))) (e1 dInt (e2 dEq (rV 0) (eC (.str "by"))))))) (sIf (gP (e1 asB (e2 dIsnt (rV 5) (eC .none))) (e1 asB (e2 dLt (rV 4) (eC (.int 4))))) (kK 1 4 dB (aB (vV 5) (aB (vV 2) (aB (vV 3) aO)))) (sIf (gP (e1 asB (e2 dIsnt (rV 5) (eC .none))) (e1 asB (e2 dEq (rV 4) (eC (.int 4))))) (kK 1 3 dM (aB (vV 5) (aB (vV 2) aO))) (sIf (e1 asB (e2 dIsnt (rV 5) (eC .none))) (kK 1 4 dE (aB (vV 5) (aB (vV 2) (aB (vV 3) aO)))) sNx))))
 (bN (vD (cO (aB (eV 0) (aB (e1 dTup (rV 1)) aO)))))))))))
noncomputable def eN:List A->R A:=fnF 6 jC
noncomputable def aEG:Sg->R Fw:=(aH (qO (stT [(stN 1),(stN 2)]) (eA (bA 1 fS (aB (vV 0) aO))))
 (aH (bB 3 (bA 2 eU (aB (vV 1) (aB (vV 2) aO))))
 (aH (bB 4 (vD (e2 dIx (rV 3) (eC (.int 0)))))
 (aH (bB 5 (vD (e2 dIx (rV 3) (eC (.int 1)))))
 (aH (sIf (e1 asB (e2 dEq (rV 4) (eC (.str "ever")))) (aH (bB 4 (vD (e2 dIx (eL (eP (aB (eC (.str "by")) (aB (eC (.str "out")) aO)))) (e2 dMod (eA (bA 2 a8 (aB (vV 0) (aB (vD (eC (.int 3))) aO)))) (eC (.int 2))))))
 (aH (bB 5 (bA 2 dU (aB (bA 2 dI (aB (vV 1) (aB (vV 2) aO))) (aB (vD (e2 bM (e1 dLen (rV 2)) (eC (.int 1)))) aO))))
 (sIf (e1 asB (e2 dIsntB (eA (bA 3 gU (aB (vV 1) (aB (vV 2) (aB (vD (cO (aB (eV 4) (aB (eV 5) aO)))) aO))))) (eC (.bool false)))) (bN (vD (eC (.bool false)))) sNx))) sNx)
 (aH (jT (mC (eC (.int 24)) (eC (.int 36))) (stN 6) (aH (bB 7 (bA 4 eN (aB (vV 4) (aB (vV 5) (aB (vD (e1 (d1 wF) (eA (bA 2 a8 (aB (vV 0) (aB (vV 6) aO)))))) (aB (vD (e1 dLen (rV 1))) aO))))))
 (sIf (aAC (e1 asB (eA (bA 2 gS (aB (bA 3 gU (aB (vV 1) (aB (vV 2) (aB (vV 7) aO)))) (aB (vD (e2 dEq (rV 7) (rV 3))) aO)))))) (bN (vD (eC (.bool false)))) sNx)))
 (bN (vD (eC (.bool true))))))))))
noncomputable def aEH:List A->R A:=fnF 8 aEG
end Mc
namespace Mc
open PySem L2 PyProof.Rows Fl
def top(i:Nat):Stmt:=PySem.Challenge.pw_striproam_k08_papers_spoilt.main.body.getD i (.Pass ⟨0,0,0,0⟩)
structure Txt(w:World)(K:Frag)(mg:Str->Option Value):Prop where
 b_abs:mg "abs"=none
 b_bool:mg "bool"=none
 b_enumerate:mg "enumerate"=none
 b_int:mg "int"=none
 b_isinstance:mg "isinstance"=none
 b_len:mg "len"=none
 b_list:mg "list"=none
 b_min:mg "min"=none
 b_range:mg "range"=none
 b_str:mg "str"=none
 b_tuple:mg "tuple"=none
 b_zip:mg "zip"=none
 g_BEGIN:∃ a,mg "BEGIN"=some (.ref a)/\oY K a [.int 0,.int 0]
 g_SIGNS:∃ t,mg "SIGNS"=some (.str "abc" t)
 g_STOPS:∃ a,mg "STOPS"=some (.ref a)/\oY K a [.str "by",.str "out"]
section
variable{P:Program}{w:World}{K:Frag}{mg:Str->Option Value}{base:Heap}{TH:Hp}
theorem oQ:FnScope ["self"] ["self"] (aM (aQ (top 13) 2)):=by constructor<;>first|rfl|decide +kernel
theorem uW(T:Txt w K mg){f:Addr}{fd:FuncData}(FL:Fun K "stops" "LetBy.stops" (aQ (top 13) 2) f fd):FnOk P w K mg base (CXe P w) 1 f fd ["self"] (spF (gOf P w K mg base TH) K mg 1 hV):=
 @mD P w K mg base TH "stops" "LetBy.stops" (aQ (top 13) 2) ["self"] ["self"] 0 f fd pN FL oQ (fun cdv A outer s H F E hr=>by
  have nd:=oQ.nd
  exact (Fl.aS (Fl.bK (aV lD))))
theorem oR:FnScope ["self"] ["self"] (aM (aQ (top 13) 3)):=by constructor<;>first|rfl|decide +kernel
theorem uX(T:Txt w K mg){f:Addr}{fd:FuncData}(FL:Fun K "paper" "LetBy.paper" (aQ (top 13) 3) f fd)(fo_borders:g9 K mg ["LetBy","ShutOut"] "borders"):FnOk P w K mg base (CXe P w) 1 f fd ["self"] (spF (gOf P w K mg base TH) K mg 1 hX):=
 @mD P w K mg base TH "paper" "LetBy.paper" (aQ (top 13) 3) ["self"] ["self"] 0 f fd pO FL oR (fun cdv A outer s H F E hr=>by
  have nd:=oR.nd
  exact (Fl.aS (Fl.bK (aV (c9 (aK dR (aK (jL rfl rfl fo_borders (jH (pv 0) rfl)) bH)))))))
theorem nC:FnScope ["self"] ["self"] (aM (aQ (top 14) 2)):=by constructor<;>first|rfl|decide +kernel
theorem sG(T:Txt w K mg){f:Addr}{fd:FuncData}(FL:Fun K "stops" "ShutOut.stops" (aQ (top 14) 2) f fd):FnOk P w K mg base (CXe P w) 1 f fd ["self"] (spF (gOf P w K mg base TH) K mg 1 gB):=
 @mD P w K mg base TH "stops" "ShutOut.stops" (aQ (top 14) 2) ["self"] ["self"] 0 f fd nU FL nC (fun cdv A outer s H F E hr=>by
  have nd:=nC.nd
  exact (Fl.aS (Fl.bK (aV lD))))
theorem nE:FnScope ["self"] ["self"] (aM (aQ (top 14) 3)):=by constructor<;>first|rfl|decide +kernel
theorem sH(T:Txt w K mg){f:Addr}{fd:FuncData}(FL:Fun K "paper" "ShutOut.paper" (aQ (top 14) 3) f fd)(fo_borders:g9 K mg ["LetBy","ShutOut"] "borders"):FnOk P w K mg base (CXe P w) 1 f fd ["self"] (spF (gOf P w K mg base TH) K mg 1 gC):=
 @mD P w K mg base TH "paper" "ShutOut.paper" (aQ (top 14) 3) ["self"] ["self"] 0 f fd nV FL nE (fun cdv A outer s H F E hr=>by
  have nd:=nE.nd
  exact (Fl.aS (Fl.bK (aV (c9 (aK dR (aK (jL rfl rfl fo_borders (jH (pv 0) rfl)) bH)))))))
theorem nF:FnScope ["self"] ["self"] (aM (aQ (top 15) 2)):=by constructor<;>first|rfl|decide +kernel
theorem sI(T:Txt w K mg){f:Addr}{fd:FuncData}(FL:Fun K "stops" "ForEver.stops" (aQ (top 15) 2) f fd):FnOk P w K mg base (CXe P w) 1 f fd ["self"] (spF (gOf P w K mg base TH) K mg 1 gD):=
 @mD P w K mg base TH "stops" "ForEver.stops" (aQ (top 15) 2) ["self"] ["self"] 0 f fd nW FL nF (fun cdv A outer s H F E hr=>by
  have nd:=nF.nd
  exact (Fl.aS (Fl.bK (aV lD))))
end
end Mc
namespace Mc
open PySem L2 PyProof.Rows Fl
section
variable{P:Program}{w:World}{K:Frag}{mg:Str->Option Value}{base:Heap}{TH:Hp}
theorem nG:FnScope ["self"] ["self"] (aM (aQ (top 15) 3)):=by constructor<;>first|rfl|decide +kernel
theorem sJ(T:Txt w K mg){f:Addr}{fd:FuncData}(FL:Fun K "paper" "ForEver.paper" (aQ (top 15) 3) f fd)(fo_again:g9 K mg ["ForEver"] "again")(fo_first:g9 K mg ["ForEver"] "first")(fo_room:g9 K mg ["LetBy","ShutOut","ForEver"] "room")(fo_place:g9 K mg ["LetBy","ShutOut","ForEver"] "place"):FnOk P w K mg base (CXe P w) 1 f fd ["self"] (spF (gOf P w K mg base TH) K mg 1 gE):=
 @mD P w K mg base TH "paper" "ForEver.paper" (aQ (top 15) 3) ["self"] ["self"] 0 f fd nX FL nG (fun cdv A outer s H F E hr=>by
  have nd:=nG.nd
  exact (Fl.aS (Fl.bK (aV (c9 (@aK _ _ _ _ _ _ _ dR (aK (jL rfl rfl fo_place (jH (pv 0) rfl)) (aK (jL rfl rfl fo_room (jH (pv 0) rfl)) (aK (jL rfl rfl fo_first (jH (pv 0) rfl)) (aK (jL rfl rfl fo_again (jH (pv 0) rfl)) bH)))) aII))))))
theorem sU:FnScope ["machine"] ["machine"] (aM (top 7)):=by constructor<;>first|rfl|decide +kernel
theorem aBX(T:Txt w K mg)(D:DefAt K mg "signs_of" (top 7) ["machine"]):bC P w K mg base TH 1 "signs_of" ["machine"] kF:=
 @dH P w K mg base TH "signs_of" (top 7) ["machine"] ["machine"] 0 pB D sU (fun f cdv A outer s H F E hr=>by
  have nd:=sU.nd
  exact (Fl.aS (Fl.bK (aV (cU rfl (bP b7 rfl T.b_len PySem.boot_len (aJ (aA (aW (aX rfl) aL (aA (aW (aX rfl) aL (aC (pv 0)) (aA aD))) (aA aD))) aU)))))))
theorem pP:FnScope ["signs","strip","known","at","sign"] ["signs","strip"] (aM (top 8)):=by constructor<;>first|rfl|decide +kernel
theorem yB(T:Txt w K mg)(D:DefAt K mg "checked_by" (top 8) ["signs","strip"]){W_NoStrip C_NoStrip:Addr}(er_NoStrip:ErrAt P w K mg base "NoStrip" ["at"] W_NoStrip C_NoStrip):bC P w K mg base TH 3 "checked_by" ["signs","strip"] iL:=
 @dH P w K mg base TH "checked_by" (top 8) ["signs","strip","known","at","sign"] ["signs","strip"] 2 mS D pP (fun f cdv A outer s H F E hr=>by
  have nd:=pP.nd
  exact (Fl.aF (Fl.aN (L2.aN (i:=2) nd rfl (Or.inl rfl) (aV (o9 rfl (aA (iJ (kP (v:=.str "abc") rfl T.g_SIGNS.choose_spec ⟨_,rfl⟩) fun _=>.str _)) uO (uP (aC (pv 0)))))))
   (Fl.aF (Fl.eR (mO rfl (eE (cL 3) (eE (cL 4) kW)) rfl) (L2.eR (gN ⟨rfl,rfl⟩) rfl (aM4 rfl (aJ9 rfl T.b_enumerate (aJ (cN (pv 1)) aU)) (aHG rfl T.b_enumerate (aJ (cN (pv 1)) aU))) (j7 rfl (dF (cJ (i:=3) nd rfl (Or.inl rfl)) (dF (cJ (i:=4) nd rfl (Or.inl rfl)) iR)))
   (Fl.aS (Fl.dJ (Fl.bV (aKP rfl hr.units) aFQ (aC (pv 4)) (aC (pv 2)) (by with_unfolding_all rfl)) (Fl.aS (Fl.tD er_NoStrip.m (by decide) (aFF rfl er_NoStrip rfl (hr.mono (by decide)) (aK (cN (pv 3)) bH)))) Fl.cK))))
   (Fl.aS (Fl.bK (aT (pv 1)))))))
theorem uY:FnScope ["machine","strip"] ["machine","strip"] (aM (top 9)):=by constructor<;>first|rfl|decide +kernel
theorem aEI(T:Txt w K mg)(D:DefAt K mg "checked" (top 9) ["machine","strip"])(c_checked_by:bC P w K mg base TH 3 "checked_by" ["signs","strip"] iL)(c_signs_of:bC P w K mg base TH 1 "signs_of" ["machine"] kF):bC P w K mg base TH 4 "checked" ["machine","strip"] iM:=
 @dH P w K mg base TH "checked" (top 9) ["machine","strip"] ["machine","strip"] 3 qR D uY (fun f cdv A outer s H F E hr=>by
  have nd:=uY.nd
  exact (Fl.aS (Fl.bK (cA rfl rfl rfl (bX c_checked_by (hr.mono (by decide)) rfl (bW fun _ _ _ h=>h) (aE (cA rfl rfl rfl (bX c_signs_of (hr.mono (by decide)) rfl (bW fun _ _ _ h=>h) (aE (aT (pv 0)) bF))) (aE (aT (pv 1)) bF)))))))
end
end Mc
namespace Mc
open PySem L2 PyProof.Rows Fl
section
variable{P:Program}{w:World}{K:Frag}{mg:Str->Option Value}{base:Heap}{TH:Hp}
theorem uZ:FnScope ["machine","strip","stand","place","row"] ["machine","strip","stand"] (aM (top 16)):=by constructor<;>first|rfl|decide +kernel
theorem aEJ(T:Txt w K mg)(D:DefAt K mg "cell_at" (top 16) ["machine","strip","stand"]):bC P w K mg base TH 1 "cell_at" ["machine","strip","stand"] gX:=
 @dH P w K mg base TH "cell_at" (top 16) ["machine","strip","stand","place","row"] ["machine","strip","stand"] 0 qS D uZ (fun f cdv A outer s H F E hr=>by
  have nd:=uZ.nd
  exact (Fl.aF (Fl.aN (L2.aN (i:=3) nd rfl (Or.inl rfl) (aV (aW (aX rfl) aL (aC (pv 2)) (aA aD)))))
   (Fl.aF (Fl.aN (L2.aN (i:=4) nd rfl (Or.inl rfl) (aV (aW (aX rfl) aL (aC (pv 0)) (aA (aW (aX rfl) aL (aC (pv 2)) (aA aD)))))))
   (Fl.aF (Fl.dJ (Fl.bV (cR rfl hr.units) b5 (aC (pv 3)) (aA aD) (bO _)) (Fl.aS (Fl.bK (aV (c9 (aK (aW (aX rfl) aL (aC (pv 4)) (aA aD)) (aK aD bH)))))) Fl.cK)
   (Fl.aF (Fl.dJ (Fl.bV (cR rfl hr.units) b5 (aC (pv 3)) (aA (aG (bY rfl) bL (aA (cU rfl (bP b7 rfl T.b_len PySem.boot_len (aJ (aC (pv 1)) aU)))) (aA aD))) (bO _)) (Fl.aS (Fl.bK (aV (c9 (aK (aW (aX rfl) aL (aC (pv 4)) (aA aD)) (aK (lE h7 fH (aA aD)) bH)))))) Fl.cK)
   (Fl.aS (Fl.bK (aV (aW (aX rfl) aL (aA (aW (aX rfl) aL (aC (pv 4)) (aA aD))) (aA (aAI (gK PySem.F.plainAttrs_str PySem.F.slot_str_index PySem.F.type_str_index zP (aA (iJ (kP (v:=.str "abc") rfl T.g_SIGNS.choose_spec ⟨_,rfl⟩) fun _=>.str _)) (aJ (aA (aW (aX rfl) aL (aC (pv 1)) (aA (aG fZ eO (aC (pv 3)) (aA aD))))) aU)) (by intro ρ x h;cases h;exact ⟨_,rfl⟩))))))))))))
theorem aC0:FnScope ["machine","strip","stand","stands","been","cell"] ["machine","strip"] (aM (top 17)):=by constructor<;>first|rfl|decide +kernel
theorem aLE(T:Txt w K mg)(D:DefAt K mg "path" (top 17) ["machine","strip"])(c_checked:bC P w K mg base TH 4 "checked" ["machine","strip"] iM)(c_cell_at:bC P w K mg base TH 1 "cell_at" ["machine","strip","stand"] gX):bC P w K mg base TH 5 "path" ["machine","strip"] mT:=
 @dH P w K mg base TH "path" (top 17) ["machine","strip","stand","stands","been","cell"] ["machine","strip"] 4 aAW D aC0 (fun f cdv A outer s H F E hr=>by
  have nd:=aC0.nd
  exact (Fl.aF (Fl.dO (L2.dO (cA rfl rfl rfl (bX c_checked (hr.mono (by decide)) rfl (bW fun _ _ _ h=>h) (aE (aT (pv 0)) (aE (aT (pv 1)) bF))))))
   (Fl.aF (Fl.aN (L2.aN (i:=2) nd rfl (Or.inl rfl) (aV (iJ (kP (v:=.ref T.g_BEGIN.choose) rfl T.g_BEGIN.choose_spec.1 rfl) fun F=>aAM T.g_BEGIN.choose_spec.2 (by exact fun F=>.cons (.int _) (.cons (.int _) (.nil))) F))))
   (Fl.aF (iS (L2.aN (i:=3) nd rfl (Or.inl rfl) (fD (aK (cN (pv 2)) bH))))
   (Fl.aF (aCL rfl (L2.aN (i:=4) nd rfl (Or.inl rfl) aCK))
   (Fl.aF (Fl.mG (L2.mG (gN ⟨rfl,rfl⟩) (aFX rfl rfl (vQ (aAK hr.units) (cN (pv 2)) (pv 4) (by with_unfolding_all rfl)))
   (Fl.aF (Fl.aCM rfl rfl (eX lD (f7 (pv 4) (cN (pv 2)) (aAL hr.units))))
   (Fl.aF (Fl.aN (L2.aN (i:=5) nd rfl (Or.inl rfl) (cA rfl rfl rfl (bX c_cell_at (hr.mono (by decide)) rfl (bW fun _ _ _ h=>h) (aE (aT (pv 0)) (aE (aT (pv 1)) (aE (aT (pv 2)) bF)))))))
   (Fl.aF (Fl.dJ (Fl.bV (aM2 rfl hr.units) aHT (aA (aW (aX rfl) aL (aC (pv 5)) (aA aD))) (aA (iJ (kP (v:=.ref T.g_STOPS.choose) rfl T.g_STOPS.choose_spec.1 rfl) fun F=>aAM T.g_STOPS.choose_spec.2 (by exact fun F=>.cons (.str _) (.cons (.str _) (.nil))) F)) (by with_unfolding_all rfl)) (Fl.aS (yV 3 (Fl.bK (aT (pv 3))))) Fl.cK)
   (Fl.aF (Fl.aN (L2.aN (i:=2) nd rfl (Or.inl rfl) (aV (c9 (aK (aG (bY rfl) bL (aA (aW (aX rfl) aL (aC (pv 2)) (aA aD))) (aA (aW (aX rfl) aL (aC (pv 5)) (aA aD)))) (aK (aW (aX rfl) aL (aC (pv 5)) (aA aD)) bH))))))
   (Fl.aS (oH rfl (L2.dO (gK PySem.F.plainAttrs_list PySem.F.slot_list_append PySem.F.type_list_append iI (pv 3) (aJ (cN (pv 2)) aU)))))))))))
   (Fl.aS (yV 3 (Fl.bK (aT (pv 3)))))))))))
theorem pQ:FnScope ["stands","strip","crossings","here","there"] ["stands","strip"] (aM (top 18)):=by constructor<;>first|rfl|decide +kernel
theorem yC(T:Txt w K mg)(D:DefAt K mg "borders_of" (top 18) ["stands","strip"]):bC P w K mg base TH 1 "borders_of" ["stands","strip"] gT:=
 @dH P w K mg base TH "borders_of" (top 18) ["stands","strip","crossings","here","there"] ["stands","strip"] 0 m6 D pQ (fun f cdv A outer s H F E hr=>by
  have nd:=pQ.nd
  exact (aIH (is:=[3,4]) (L2.uC (i:=2) nd rfl (Or.inl rfl) (by rfl) (N:=["border"]) (js:=[none]) rfl (.own .nil) (by rfl) (aJD (kX (iH rfl T.b_range (aJ (aA (aG (bY rfl) bL (aA (cU rfl (bP b7 rfl T.b_len PySem.boot_len (aJ (aC (pv 1)) aU)))) (aA aD))) aU))))) rfl (fun cl C s0 H0 fp=>⟨cJ (i:=0) (show (["border"]:List Str).Nodup by decide +kernel) rfl (Or.inl rfl),aEZ aU⟩) (mO rfl (eE (cL 3) (eE (cL 4) kW)) rfl) (by decide)
   (L2.eR (gN ⟨rfl,rfl⟩) rfl (aKY rfl (L2.aNC rfl T.b_zip (aJ (cN (pv 0)) (aJ (o9 rfl (aC (pv 0)) (uP (aA aD)) uO) aU)))) (j7 rfl (dF (cJ (i:=3) nd rfl (Or.inl rfl)) (dF (cJ (i:=4) nd rfl (Or.inl rfl)) iR))) (L2.aS (L2.dO (gK PySem.F.plainAttrs_list PySem.F.slot_list_append PySem.F.type_list_append iI (aI5 aML (pv 2) (aA (aAO (G:=eQ) (bP (p8 rfl) rfl T.b_min PyProof.Rows.boot_min (aJ (aA (aW (aX rfl) aL (aC (pv 3)) (aA aD))) (aJ (aA (aW (aX rfl) aL (aC (pv 4)) (aA aD))) aU))))) (fun _ _=>rfl)) (aJ (aW (aX rfl) aL (aC (pv 4)) (aA aD)) aU)))))
   (Fl.aS (Fl.bK (aV (gH rfl (cZ dW rfl T.b_tuple PyProof.Rows.boot_tuple (aJ (aA (hR (wD (vW (N:=["rooms"]) (js:=[none]) rfl (.own .nil) (by rfl) (aHV rfl (aC (pv 2)))) (by decide) (by decide) (is:=[0]) (fun cl C s0 H0 fp=>⟨_,(cJ (i:=0) (show (["rooms"]:List Str).Nodup by decide +kernel) rfl (Or.inl rfl)),(cL 0),Fl.kT,(gH rfl (cZ dW rfl T.b_tuple PyProof.Rows.boot_tuple (aJ (aC (pv 0)) aU)))⟩)))) aU))))))))
theorem aC1:FnScope ["machine","strip","stands","last","word"] ["machine","strip"] (aM (top 19)):=by constructor<;>first|rfl|decide +kernel
theorem aLF(T:Txt w K mg)(D:DefAt K mg "walk" (top 19) ["machine","strip"])(c_path:bC P w K mg base TH 5 "path" ["machine","strip"] mT)(c_cell_at:bC P w K mg base TH 1 "cell_at" ["machine","strip","stand"] gX)(c_borders_of:bC P w K mg base TH 1 "borders_of" ["stands","strip"] gT){Co_LetBy:Addr}(mk_LetBy:MkAt P w K mg base 2 "LetBy" ["place","room","borders"] Co_LetBy){Co_ShutOut:Addr}(mk_ShutOut:MkAt P w K mg base 2 "ShutOut" ["place","room","borders"] Co_ShutOut){Co_ForEver:Addr}(mk_ForEver:MkAt P w K mg base 2 "ForEver" ["place","room","first","again"] Co_ForEver):bC P w K mg base TH 6 "walk" ["machine","strip"] rB:=
 @dH P w K mg base TH "walk" (top 19) ["machine","strip","stands","last","word"] ["machine","strip"] 5 aBC D aC1 (fun f cdv A outer s H F E hr=>by
  have nd:=aC1.nd
  exact (Fl.aF (Fl.aN (L2.aN (i:=2) nd rfl (Or.inl rfl) (cA rfl rfl rfl (bX c_path (hr.mono (by decide)) rfl (bW fun _ _ _ h=>h) (aE (aT (pv 0)) (aE (aT (pv 1)) bF))))))
   (Fl.aF (Fl.aN (L2.aN (i:=3) nd rfl (Or.inl rfl) (aV (aW (aX rfl) aL (aC (pv 2)) (aA (lE h7 fH (aA aD)))))))
   (Fl.aF (Fl.aN (L2.aN (i:=4) nd rfl (Or.inl rfl) (aV (aW (aX rfl) aL (aA (dN (cA rfl rfl rfl (bX c_cell_at (hr.mono (by decide)) rfl (bW fun _ _ _ h=>h) (aE (aT (pv 0)) (aE (aT (pv 1)) (aE (aT (pv 3)) bF))))))) (aA aD)))))
   (Fl.aF (Fl.dJ (Fl.bV (cR rfl hr.units) b5 (aC (pv 4)) (aA dR) (bO _)) (Fl.aS (Fl.bK (aBA rfl mk_LetBy (hr.mono (by decide)) rfl (aK (aW (aX rfl) aL (aC (pv 3)) (aA aD)) (aK (aW (aX rfl) aL (aC (pv 3)) (aA aD)) (aK (dN (cA rfl rfl rfl (bX c_borders_of (hr.mono (by decide)) rfl (bW fun _ _ _ h=>h) (aE (aT (pv 2)) (aE (aT (pv 1)) bF))))) bH)))))) Fl.cK)
   (Fl.aF (Fl.dJ (Fl.bV (cR rfl hr.units) b5 (aC (pv 4)) (aA dR) (bO _)) (Fl.aS (Fl.bK (aBA rfl mk_ShutOut (hr.mono (by decide)) rfl (aK (aW (aX rfl) aL (aC (pv 3)) (aA aD)) (aK (aW (aX rfl) aL (aC (pv 3)) (aA aD)) (aK (dN (cA rfl rfl rfl (bX c_borders_of (hr.mono (by decide)) rfl (bW fun _ _ _ h=>h) (aE (aT (pv 2)) (aE (aT (pv 1)) bF))))) bH)))))) Fl.cK)
   (Fl.aS (Fl.bK (aBA rfl mk_ForEver (hr.mono (by decide)) rfl (aK (aW (aX rfl) aL (aC (pv 3)) (aA aD)) (aK (aW (aX rfl) aL (aC (pv 3)) (aA aD)) (aK (xW rfl (gK PySem.F.plainAttrs_list PySem.F.slot_list_index PySem.F.type_list_index (xV hr.units) (aC (pv 2)) (aJ (aC (pv 3)) aU))) (aK (aG fZ eO (aA (cU rfl (bP b7 rfl T.b_len PySem.boot_len (aJ (aC (pv 2)) aU)))) (aA aD)) bH)))))))))))))
theorem sV:FnScope ["stands","ending","number"] ["stands","ending","number"] (aM (top 21)):=by constructor<;>first|rfl|decide +kernel
theorem aBY(T:Txt w K mg)(D:DefAt K mg "stand_at" (top 21) ["stands","ending","number"])(fo_first:g9 K mg ["ForEver"] "first")(fo_again:g9 K mg ["ForEver"] "again"):bC P w K mg base TH 1 "stand_at" ["stands","ending","number"] l9:=
 @dH P w K mg base TH "stand_at" (top 21) ["stands","ending","number"] ["stands","ending","number"] 0 uV D sV (fun f cdv A outer s H F E hr=>by
  have nd:=sV.nd
  exact (Fl.aF (Fl.dJ (Fl.bV qJ mL (aC (pv 2)) (aA (cU rfl (bP b7 rfl T.b_len PySem.boot_len (aJ (aC (pv 0)) aU)))) (bO _)) (Fl.aS (Fl.bK (aV (aW (aX rfl) aL (aC (pv 0)) (aC (pv 2)))))) Fl.cK)
   (Fl.aS (Fl.bK (aV (aW (aX rfl) aL (aC (pv 0)) (aA (aG (bY rfl) bL (aA (jL rfl rfl fo_first (jH (pv 1) rfl))) (aA (aG bG aZ (aA (aG fZ eO (aC (pv 2)) (aA (jL rfl rfl fo_first (jH (pv 1) rfl))))) (aA (aG fZ eO (aA (jL rfl rfl fo_again (jH (pv 1) rfl))) (aA (jL rfl rfl fo_first (jH (pv 1) rfl)))))))))))))))
end
end Mc
namespace Mc
open PySem L2 PyProof.Rows Fl
section
variable{P:Program}{w:World}{K:Frag}{mg:Str->Option Value}{base:Heap}{TH:Hp}
theorem pR:FnScope ["machine","strip","ending","paper","first","again","stands","stand"] ["machine","strip","ending","paper"] (aM (top 22)):=by constructor<;>first|rfl|decide +kernel
theorem yD(T:Txt w K mg)(D:DefAt K mg "goes_round" (top 22) ["machine","strip","ending","paper"])(c_path:bC P w K mg base TH 5 "path" ["machine","strip"] mT)(c_stand_at:bC P w K mg base TH 1 "stand_at" ["stands","ending","number"] l9):bC P w K mg base TH 6 "goes_round" ["machine","strip","ending","paper"] m8:=
 @dH P w K mg base TH "goes_round" (top 22) ["machine","strip","ending","paper","first","again","stands","stand"] ["machine","strip","ending","paper"] 5 rC D pR (fun f cdv A outer s H F E hr=>by
  have nd:=pR.nd
  exact (Fl.aF (Fl.aN (L2.aN (i:=4) nd rfl (Or.inl rfl) (aV (aW (aX rfl) aL (aC (pv 3)) (aA aD)))))
   (Fl.aF (Fl.aN (L2.aN (i:=5) nd rfl (Or.inl rfl) (aV (aW (aX rfl) aL (aC (pv 3)) (aA aD)))))
   (Fl.aF (Fl.dJ (Fl.t5 (Fl.rA aFP aAB qJ mL aFP aAB (aA aD) (aC (pv 4)) (aC (pv 5)) (aA (aG hZ fG (aA (cU rfl (bP b7 rfl T.b_len PySem.boot_len (aJ (aC (pv 0)) aU)))) (aA (aG (bY rfl) bL (aA (cU rfl (bP b7 rfl T.b_len PySem.boot_len (aJ (aC (pv 1)) aU)))) (aA aD))))))) (Fl.aS (Fl.bK (aV lD))) Fl.cK)
   (Fl.aF (Fl.aN (L2.aN (i:=6) nd rfl (Or.inl rfl) (cA rfl rfl rfl (bX c_path (hr.mono (by decide)) rfl (bW fun _ _ _ h=>h) (aE (aT (pv 0)) (aE (aT (pv 1)) bF))))))
   (Fl.aF (Fl.aN (L2.aN (i:=7) nd rfl (Or.inl rfl) (aV (c9 (aK (aW (aX rfl) aL (aC (pv 3)) (aA aD)) (aK (aW (aX rfl) aL (aC (pv 3)) (aA aD)) bH))))))
   (Fl.aS (Fl.bK (aV (aAF (jJ (cR rfl hr.units) b5 (aA (dN (cA rfl rfl rfl (bX c_stand_at (hr.mono (by decide)) rfl (bW fun _ _ _ h=>h) (aE (aT (pv 6)) (aE (oN (pv 2)) (aE (aT (pv 4)) bF))))))) (aC (pv 7)) (bO _)) (aAE (jJ (cR rfl hr.units) b5 (aA (dN (cA rfl rfl rfl (bX c_stand_at (hr.mono (by decide)) rfl (bW fun _ _ _ h=>h) (aE (aT (pv 6)) (aE (oN (pv 2)) (aE (aT (pv 5)) bF))))))) (aC (pv 7)) (bO _)))))))))))))
theorem aBE:FnScope ["machine","strip","paper","ending"] ["machine","strip","paper"] (aM (top 23)):=by constructor<;>first|rfl|decide +kernel
theorem aIK(T:Txt w K mg)(D:DefAt K mg "holds" (top 23) ["machine","strip","paper"])(c_walk:bC P w K mg base TH 6 "walk" ["machine","strip"] rB)(c_goes_round:bC P w K mg base TH 6 "goes_round" ["machine","strip","ending","paper"] m8)(mt_stops:∀ p∈[(("LetBy":Str),hV),(("ShutOut":Str),gB),(("ForEver":Str),gD)],wK P w K mg base TH 1 p.1 "stops" p.2)(mt_paper:∀ p∈[(("LetBy":Str),hX),(("ShutOut":Str),gC),(("ForEver":Str),gE)],wK P w K mg base TH 1 p.1 "paper" p.2):bC P w K mg base TH 7 "holds" ["machine","strip","paper"] gU:=
 @dH P w K mg base TH "holds" (top 23) ["machine","strip","paper","ending"] ["machine","strip","paper"] 6 sC D aBE (fun f cdv A outer s H F E hr=>by
  have nd:=aBE.nd
  exact (Fl.aF (Fl.aN (L2.aN (i:=3) nd rfl (Or.inl rfl) (cA rfl rfl rfl (bX c_walk (hr.mono (by decide)) rfl (bW fun _ _ _ h=>h) (aE (aT (pv 0)) (aE (aT (pv 1)) bF))))))
   (Fl.aF (Fl.dJ (Fl.oC (dN (aJJ rfl rfl rfl mt_stops (hr.mono (by decide)) (bW fun _ _ _ h=>h) (oN (pv 3))))) (Fl.aS (Fl.bK (aV (jJ (cR rfl hr.units) b5 (aC (pv 2)) (aA (dN (aJJ rfl rfl rfl mt_paper (hr.mono (by decide)) (bW fun _ _ _ h=>h) (oN (pv 3))))) (bO _))))) Fl.cK)
   (Fl.aS (Fl.bK (aV (aAF (jJ (cR rfl hr.units) b5 (aA (aW (aX rfl) aL (aC (pv 2)) (aA aD))) (aA dR) (bO _)) (aAE (dN (cA rfl rfl rfl (bX c_goes_round (hr.mono (by decide)) rfl (bW fun _ _ _ h=>h) (aE (aT (pv 0)) (aE (aT (pv 1)) (aE (oN (pv 3)) (aE (aT (pv 2)) bF)))))))))))))))
theorem pS:FnScope ["_law_found","_law_due"] ["_law_found","_law_due"] (aM (top 25)):=by constructor<;>first|rfl|decide +kernel
theorem yE(T:Txt w K mg)(D:DefAt K mg "_law_truth" (top 25) ["_law_found","_law_due"]):bC P w K mg base TH 1 "_law_truth" ["_law_found","_law_due"] gS:=
 @dH P w K mg base TH "_law_truth" (top 25) ["_law_found","_law_due"] ["_law_found","_law_due"] 0 mX D pS (fun f cdv A outer s H F E hr=>by
  have nd:=pS.nd
  exact (Fl.aS (Fl.bK (aV (aAF (aAH (bP (tH rfl (aH0 _)) rfl T.b_isinstance PyProof.Rows.boot_isinstance (aJ (aC (pv 0)) (aJ (vP (v:=.ty "bool") rfl T.b_bool PyProof.Rows.boot_bool rfl) aU)))) (aAE (jJ (cR rfl hr.units) b5 (aC (pv 0)) (aC (pv 1)) (bO _))))))))
theorem rD:FnScope ["_law_script","_law_k","_law_cell_here","_law_mixed"] ["_law_script","_law_k"] (aM (top 26)):=by constructor<;>first|rfl|decide +kernel
theorem aBF(T:Txt w K mg)(D:DefAt K mg "_law_cell" (top 26) ["_law_script","_law_k"]):bC P w K mg base TH 1 "_law_cell" ["_law_script","_law_k"] a8:=
 @dH P w K mg base TH "_law_cell" (top 26) ["_law_script","_law_k","_law_cell_here","_law_mixed"] ["_law_script","_law_k"] 0 lH D rD (fun f cdv A outer s H F E hr=>by
  have nd:=rD.nd
  exact (Fl.aF (Fl.aN (L2.aN (i:=2) nd rfl (Or.inl rfl) (aV aD)))
   (Fl.aF (Fl.dJ (Fl.bV mK jS (aA (cU rfl (bP b7 rfl T.b_len PySem.boot_len (aJ (aC (pv 0)) aU)))) (aA aD) (bO _)) (Fl.aS (Fl.aN (L2.aN (i:=2) nd rfl (Or.inl rfl) (aV (aW (aX rfl) aL (aC (pv 0)) (aA (aG bG aZ (aC (pv 1)) (aA (cU rfl (bP b7 rfl T.b_len PySem.boot_len (aJ (aC (pv 0)) aU))))))))))) Fl.cK)
   (Fl.aF (Fl.aN (L2.aN (i:=3) nd rfl (Or.inl rfl) (aV (aG bG aZ (aA (aG hZ fG (aA (aG (bY rfl) bL (aA (aG (bY rfl) bL (aA (aG bG aZ (aC (pv 2)) (aA aD))) (aA (aG hZ fG (aA aD) (aC (pv 1)))))) (aA aD))) (aA aD))) (aA aD)))))
   (Fl.aS (Fl.bK (aV (aG (bY rfl) bL (aA (aG hZ fG (aA (aG c8 cD (aC (pv 2)) (aA aD))) (aA aD))) (aA (aG bG aZ (aA (aG (bY rfl) bL (aA (aG hZ fG (aC (pv 3)) (aA aD))) (aA (aG hZ fG (aA aD) (aC (pv 1)))))) (aA aD)))))))))))
theorem sW:FnScope ["_law_number","_law_rooms"] ["_law_number","_law_rooms"] (aM (top 27)):=by constructor<;>first|rfl|decide +kernel
theorem aBZ(T:Txt w K mg)(D:DefAt K mg "_law_end" (top 27) ["_law_number","_law_rooms"]):bC P w K mg base TH 1 "_law_end" ["_law_number","_law_rooms"] gA:=
 @dH P w K mg base TH "_law_end" (top 27) ["_law_number","_law_rooms"] ["_law_number","_law_rooms"] 0 l8 D sW (fun f cdv A outer s H F E hr=>by
  have nd:=sW.nd
  exact (Fl.aF (Fl.dJ (Fl.bV (cR rfl hr.units) b5 (aA (aG bG aZ (aC (pv 0)) (aA aD))) (aA aD) (bO _)) (Fl.aS (Fl.bK (aV (aW (aX rfl) aL (aA (hR (fD (aK dR (aK dR bH))))) (aA (aG bG aZ (aA (aG c8 cD (aC (pv 0)) (aA aD))) (aA aD))))))) Fl.cK)
   (Fl.aS (Fl.bK (aV (aG bG aZ (aA (aG c8 cD (aC (pv 0)) (aA aD))) (aC (pv 1))))))))
end
end Mc
namespace Mc
open PySem L2 PyProof.Rows Fl
section
variable{P:Program}{w:World}{K:Frag}{mg:Str->Option Value}{base:Heap}{TH:Hp}
theorem lX:FnScope ["_law_number","_law_rooms","_law_signs","_law_left","_law_cells","_law_k","_law_ends"] ["_law_number","_law_rooms","_law_signs"] (aM (top 28)):=by constructor<;>first|rfl|decide +kernel
theorem sK(T:Txt w K mg)(D:DefAt K mg "_law_digit_row" (top 28) ["_law_number","_law_rooms","_law_signs"]):bC P w K mg base TH 1 "_law_digit_row" ["_law_number","_law_rooms","_law_signs"] eF:=
 @dH P w K mg base TH "_law_digit_row" (top 28) ["_law_number","_law_rooms","_law_signs","_law_left","_law_cells","_law_k","_law_ends"] ["_law_number","_law_rooms","_law_signs"] 0 jX D lX (fun f cdv A outer s H F E hr=>by
  have nd:=lX.nd
  exact (Fl.aF (Fl.aN (L2.aN (i:=3) nd rfl (Or.inl rfl) (aV (aG bG aZ (aC (pv 0)) (aA (aG (bY rfl) bL (aC (pv 1)) (aA aD)))))))
   (Fl.aF (Fl.aN (L2.aN (i:=0) nd rfl (Or.inl rfl) (aV (aG c8 cD (aC (pv 0)) (aA (aG (bY rfl) bL (aC (pv 1)) (aA aD)))))))
   (Fl.aF (iS (L2.aN (i:=4) nd rfl (Or.inl rfl) (fD bH)))
   (Fl.aF (Fl.eR (cL 5) (L2.eR (gN ⟨rfl,rfl⟩) rfl (kX (iH rfl T.b_range (aJ (aC (pv 2)) aU))) (cJ (i:=5) nd rfl (Or.inl rfl))
   (Fl.aF (oH rfl (L2.dO (gK PySem.F.plainAttrs_list PySem.F.slot_list_append PySem.F.type_list_append iI (pv 4) (aJ (c9 (aK (aG bG aZ (aA (aG c8 cD (aC (pv 0)) (aA aD))) (aC (pv 1))) (aK (aG fZ eO (aA aD) (aA (aG hZ fG (aA (aG bG aZ (aC (pv 0)) (aA aD))) (aA aD)))) bH))) aU))))
   (Fl.aS (Fl.aN (L2.aN (i:=0) nd rfl (Or.inl rfl) (aV (aG c8 cD (aC (pv 0)) (aA (aG hZ fG (aA aD) (aC (pv 1))))))))))))
   (Fl.aF (iS (L2.aN (i:=6) nd rfl (Or.inl rfl) (fD (aK (cN (pv 3)) (aK (aG bG aZ (aC (pv 0)) (aA (aG (bY rfl) bL (aC (pv 1)) (aA aD)))) bH)))))
   (Fl.aF (aKS (L2.uC (i:=6) nd rfl (Or.inl rfl) (by rfl) (N:=["_law_end_here","_law_rooms"]) (js:=[none,some 1]) rfl (.own (.cap rfl (.inl rfl) (.inl rfl) .nil)) (by rfl) (aHV rfl (aC (pv 6)))) (by decide) (by decide) (is:=[0]) (fun cl C s0 H0 fp=>⟨_,(cJ (i:=0) (show (["_law_end_here","_law_rooms"]:List Str).Nodup by decide +kernel) rfl (Or.inl rfl)),(cL 0),Fl.kT,(aOS (Fl.bV aMZ aHQ (aC (pv 0)) (aC (pv 1)) (bO _)) (aW (aX rfl) aL (aA (hR (fD (aK dR (aK dR bH))))) (aA (aG fZ eO (aC (pv 0)) (aC (pv 1))))) (cN (pv 0)))⟩))
   (Fl.aS (Fl.bK (aV (c9 (aK (aW (aX rfl) aL (aC (pv 6)) (aA aD)) (aK (gH rfl (cZ dW rfl T.b_tuple PyProof.Rows.boot_tuple (aJ (aC (pv 4)) aU))) (aK (aW (aX rfl) aL (aC (pv 6)) (aA aD)) bH))))))))))))))
theorem lY:FnScope ["_law_number","_law_rooms","_law_signs","_law_pieces","_law_k","_law_cells"] ["_law_number","_law_rooms","_law_signs"] (aM (top 29)):=by constructor<;>first|rfl|decide +kernel
theorem sL(T:Txt w K mg)(D:DefAt K mg "_law_mixed_row" (top 29) ["_law_number","_law_rooms","_law_signs"])(c__law_end:bC P w K mg base TH 1 "_law_end" ["_law_number","_law_rooms"] gA):bC P w K mg base TH 2 "_law_mixed_row" ["_law_number","_law_rooms","_law_signs"] dS:=
 @dH P w K mg base TH "_law_mixed_row" (top 29) ["_law_number","_law_rooms","_law_signs","_law_pieces","_law_k","_law_cells"] ["_law_number","_law_rooms","_law_signs"] 1 jY D lY (fun f cdv A outer s H F E hr=>by
  have nd:=lY.nd
  exact (Fl.aF (iS (L2.aN (i:=3) nd rfl (Or.inl rfl) (fD bH)))
   (Fl.aF (Fl.eR (cL 4) (L2.eR (gN ⟨rfl,rfl⟩) rfl (kX (iH rfl T.b_range (aJ (aA (aG (bY rfl) bL (aC (pv 2)) (aA aD))) aU))) (cJ (i:=4) nd rfl (Or.inl rfl))
   (Fl.aF (Fl.aN (L2.aN (i:=0) nd rfl (Or.inl rfl) (aV (aG bG aZ (aA (aG (bY rfl) bL (aA (aG hZ fG (aC (pv 0)) (aA aD))) (aA aD))) (aA aD)))))
   (Fl.aS (oH rfl (L2.dO (gK PySem.F.plainAttrs_list PySem.F.slot_list_append PySem.F.type_list_append iI (pv 3) (aJ (aG c8 cD (aC (pv 0)) (aA aD)) aU))))))))
   (Fl.aF (Fl.aN (L2.aN (i:=5) nd rfl (Or.inl rfl) (aV (gH rfl (cZ dW rfl T.b_tuple PyProof.Rows.boot_tuple (aJ (aA (hR (wD (vW (N:=["_law_piece","_law_rooms"]) (js:=[none,some 1]) rfl (.own (.cap rfl (.inl rfl) (.inl rfl) .nil)) (by rfl) (aHV rfl (aA (o9 rfl (aC (pv 3)) (uP (aA aD)) uO)))) (by decide) (by decide) (is:=[0]) (fun cl C s0 H0 fp=>⟨_,(cJ (i:=0) (show (["_law_piece","_law_rooms"]:List Str).Nodup by decide +kernel) rfl (Or.inl rfl)),(cL 0),Fl.kT,(c9 (aK (aG bG aZ (aC (pv 0)) (aC (pv 1))) (aK (aG fZ eO (aA aD) (aA (aG hZ fG (aA (aG c8 cD (aA (aG bG aZ (aA (aG c8 cD (aC (pv 0)) (aA aD))) (aA aD))) (aA aD))) (aA aD)))) bH)))⟩)))) aU))))))
   (Fl.aS (Fl.bK (aV (c9 (aK (dN (cA rfl rfl rfl (bX c__law_end (hr.mono (by decide)) rfl (bW fun _ _ _ h=>h) (aE (aV (aW (aX rfl) aL (aC (pv 3)) (aA aD))) (aE (aT (pv 1)) bF))))) (aK (cN (pv 5)) (aK (dN (cA rfl rfl rfl (bX c__law_end (hr.mono (by decide)) rfl (bW fun _ _ _ h=>h) (aE (aV (aW (aX rfl) aL (aC (pv 3)) (aA aD))) (aE (aT (pv 1)) bF))))) bH)))))))))))
theorem nZ:FnScope ["_law_script","_law_at_here","_law_rooms","_law_signs","_law_rows","_law_room","_law_row"] ["_law_script","_law_at_here","_law_rooms","_law_signs"] (aM (top 30)):=by constructor<;>first|rfl|decide +kernel
theorem u8(T:Txt w K mg)(D:DefAt K mg "_law_machine" (top 30) ["_law_script","_law_at_here","_law_rooms","_law_signs"])(c__law_digit_row:bC P w K mg base TH 1 "_law_digit_row" ["_law_number","_law_rooms","_law_signs"] eF)(c__law_mixed_row:bC P w K mg base TH 2 "_law_mixed_row" ["_law_number","_law_rooms","_law_signs"] dS)(c__law_cell:bC P w K mg base TH 1 "_law_cell" ["_law_script","_law_k"] a8):bC P w K mg base TH 3 "_law_machine" ["_law_script","_law_at_here","_law_rooms","_law_signs"] iO:=
 @dH P w K mg base TH "_law_machine" (top 30) ["_law_script","_law_at_here","_law_rooms","_law_signs","_law_rows","_law_room","_law_row"] ["_law_script","_law_at_here","_law_rooms","_law_signs"] 2 lP D nZ (fun f cdv A outer s H F E hr=>by
  have nd:=nZ.nd
  exact (Fl.aF (iS (L2.aN (i:=4) nd rfl (Or.inl rfl) (fD bH)))
   (Fl.aF (Fl.eR (cL 5) (L2.eR (gN ⟨rfl,rfl⟩) rfl (kX (iH rfl T.b_range (aJ (aC (pv 2)) aU))) (cJ (i:=5) nd rfl (Or.inl rfl))
   (Fl.aS (Fl.dJ (PW.pt (Fl.lM (Fl.bV qJ mL (aA (aG (bY rfl) bL (aC (pv 1)) (aC (pv 5)))) (aA (cU rfl (bP b7 rfl T.b_len PySem.boot_len (aJ (aC (pv 0)) aU)))) (bO _)) (Fl.kQ (Fl.bV (cR rfl hr.units) b5 (aA (aG bG aZ (aA (aW (aX rfl) aL (aC (pv 0)) (aA aD))) (aA aD))) (aA aD) (bO _))))) (Fl.aS (oH rfl (L2.dO (gK PySem.F.plainAttrs_list PySem.F.slot_list_append PySem.F.type_list_append iI (pv 4) (aJ (dN (cA rfl rfl rfl (bX c__law_digit_row (hr.mono (by decide)) rfl (bW fun _ _ _ h=>h) (aE (aV (aW (aX rfl) aL (aC (pv 0)) (aA (aG (bY rfl) bL (aC (pv 1)) (aC (pv 5)))))) (aE (aT (pv 2)) (aE (aT (pv 3)) bF)))))) aU))))) (Fl.aF (Fl.aN (L2.aN (i:=6) nd rfl (Or.inl rfl) (cA rfl rfl rfl (bX c__law_mixed_row (hr.mono (by decide)) rfl (bW fun _ _ _ h=>h) (aE (aV (aG bG aZ (aA (dN (cA rfl rfl rfl (bX c__law_cell (hr.mono (by decide)) rfl (bW fun _ _ _ h=>h) (aE (aT (pv 0)) (aE (aV (aG (bY rfl) bL (aC (pv 1)) (aC (pv 5)))) bF)))))) (aA aD))) (aE (aT (pv 2)) (aE (aT (pv 3)) bF)))))))
   (Fl.aF (Fl.dJ (PW.pt (Fl.lM (Fl.bV (cR rfl hr.units) b5 (aC (pv 5)) (aA aD) (bO _)) (Fl.lM (Fl.oC (aAH (bP (tH rfl (aCH _)) rfl T.b_isinstance PyProof.Rows.boot_isinstance (aJ (aA (aW (aX rfl) aL (aC (pv 6)) (aA aD))) (aJ (vP (v:=.ty "str") rfl T.b_str PyProof.Rows.boot_str rfl) aU))))) (Fl.kQ (Fl.bV mK jS (aA (aG bG aZ (aA (aG c8 cD (aA (dN (cA rfl rfl rfl (bX c__law_cell (hr.mono (by decide)) rfl (bW fun _ _ _ h=>h) (aE (aT (pv 0)) (aE (aT (pv 1)) bF)))))) (aA aD))) (aA aD))) (aA aD) (bO _)))))) (Fl.aS (Fl.aN (L2.aN (i:=6) nd rfl (Or.inl rfl) (aV (aG (bY rfl) bL (aA (c9 (aK (aG bG aZ (aA (aG c8 cD (aA (dN (cA rfl rfl rfl (bX c__law_cell (hr.mono (by decide)) rfl (bW fun _ _ _ h=>h) (aE (aT (pv 0)) (aE (aT (pv 1)) bF)))))) (aA aD))) (aC (pv 2))) bH))) (aA (o9 rfl (aC (pv 6)) (uP (aA aD)) uO))))))) Fl.cK)
   (Fl.aS (oH rfl (L2.dO (gK PySem.F.plainAttrs_list PySem.F.slot_list_append PySem.F.type_list_append iI (pv 4) (aJ (cN (pv 6)) aU)))))))))))
   (Fl.aS (Fl.bK (aV (gH rfl (cZ dW rfl T.b_tuple PyProof.Rows.boot_tuple (aJ (aC (pv 4)) aU)))))))))
theorem pT:FnScope ["_law_script","_law_at_here","_law_size","_law_signs","_law_number","_law_strip_here","_law_k"] ["_law_script","_law_at_here","_law_size","_law_signs"] (aM (top 31)):=by constructor<;>first|rfl|decide +kernel
theorem yF(T:Txt w K mg)(D:DefAt K mg "_law_strip" (top 31) ["_law_script","_law_at_here","_law_size","_law_signs"])(c__law_cell:bC P w K mg base TH 1 "_law_cell" ["_law_script","_law_k"] a8):bC P w K mg base TH 2 "_law_strip" ["_law_script","_law_at_here","_law_size","_law_signs"] jZ:=
 @dH P w K mg base TH "_law_strip" (top 31) ["_law_script","_law_at_here","_law_size","_law_signs","_law_number","_law_strip_here","_law_k"] ["_law_script","_law_at_here","_law_size","_law_signs"] 1 mY D pT (fun f cdv A outer s H F E hr=>by
  have nd:=pT.nd
  exact (Fl.aF (Fl.dJ (PW.pt (Fl.lM (Fl.bV qJ mL (aC (pv 1)) (aA (cU rfl (bP b7 rfl T.b_len PySem.boot_len (aJ (aC (pv 0)) aU)))) (bO _)) (Fl.kQ (Fl.bV (cR rfl hr.units) b5 (aA (aG bG aZ (aA (aW (aX rfl) aL (aC (pv 0)) (aA aD))) (aA aD))) (aA aD) (bO _))))) (Fl.aF (Fl.aN (L2.aN (i:=4) nd rfl (Or.inl rfl) (aV (aW (aX rfl) aL (aC (pv 0)) (aC (pv 1))))))
   (Fl.aF (Fl.aN (L2.aN (i:=5) nd rfl (Or.inl rfl) (aV dR)))
   (Fl.aF (Fl.eR (cL 6) (L2.eR (gN ⟨rfl,rfl⟩) rfl (kX (iH rfl T.b_range (aJ (aC (pv 2)) aU))) (cJ (i:=6) nd rfl (Or.inl rfl))
   (Fl.aF (Fl.aN (L2.aN (i:=5) nd rfl (Or.inl rfl) (aV (aG (bY rfl) bL (aC (pv 5)) (aA (aW (aX rfl) aL (aA dR) (aA (aG bG aZ (aC (pv 4)) (aC (pv 3))))))))))
   (Fl.aS (Fl.aN (L2.aN (i:=4) nd rfl (Or.inl rfl) (aV (aG c8 cD (aC (pv 4)) (aC (pv 3))))))))))
   (Fl.aS (Fl.bK (aT (pv 5))))))) Fl.cK)
   (Fl.aS (Fl.bK (aV (aKT rfl (gK PySem.F.plainAttrs_str PySem.F.slot_str_join PySem.F.type_str_join aKD (aA dR) (aJ (aA (hR (wD (vW (N:=["_law_k","_law_script","_law_at_here","_law_signs"]) (js:=[none,some 0,some 1,some 3]) rfl (.own (.cap rfl (.inl rfl) (.inl rfl) (.cap rfl (.inl rfl) (.inl rfl) (.cap rfl (.inl rfl) (.inl rfl) .nil)))) (by rfl) (aJD (kX (iH rfl T.b_range (aJ (aC (pv 2)) aU))))) (by decide) (by decide) (is:=[0]) (fun cl C s0 H0 fp=>⟨_,(cJ (i:=0) (show (["_law_k","_law_script","_law_at_here","_law_signs"]:List Str).Nodup by decide +kernel) rfl (Or.inl rfl)),(cL 0),Fl.kT,(aW (aX rfl) aL (aA dR) (aA (aG bG aZ (aA (dN (cA rfl rfl rfl (bX c__law_cell (hr.mono (by decide)) rfl aOP (aE (aT (pv 1)) (aE (aV (aG (bY rfl) bL (aC (pv 2)) (aC (pv 0)))) bF)))))) (aC (pv 3)))))⟩)))) aU)) (by intro ρ x h;cases h;exact ⟨_,rfl⟩)))))))
theorem rE:FnScope ["_law_machine_here","_law_strip_here","_law_stand","_law_place","_law_room","_law_left","_law_cells","_law_right","_law_there","_law_step_here"] ["_law_machine_here","_law_strip_here","_law_stand"] (aM (top 32)):=by constructor<;>first|rfl|decide +kernel
theorem aBG(T:Txt w K mg)(D:DefAt K mg "_law_step" (top 32) ["_law_machine_here","_law_strip_here","_law_stand"]):bC P w K mg base TH 1 "_law_step" ["_law_machine_here","_law_strip_here","_law_stand"] fK:=
 @dH P w K mg base TH "_law_step" (top 32) ["_law_machine_here","_law_strip_here","_law_stand","_law_place","_law_room","_law_left","_law_cells","_law_right","_law_there","_law_step_here"] ["_law_machine_here","_law_strip_here","_law_stand"] 0 oA D rE (fun f cdv A outer s H F E hr=>by
  have nd:=rE.nd
  exact (Fl.aF (qP (mO rfl (eE (cL 3) (eE (cL 4) kW)) rfl) (eX (cN (pv 2)) (j7 rfl (dF (cJ (i:=3) nd rfl (Or.inl rfl)) (dF (cJ (i:=4) nd rfl (Or.inl rfl)) iR)))))
   (Fl.aF (qP (mO rfl (eE (cL 5) (eE (cL 6) (eE (cL 7) kW))) rfl) (eX (aW (aX rfl) aL (aC (pv 0)) (aC (pv 4))) (j7 rfl (dF (cJ (i:=5) nd rfl (Or.inl rfl)) (dF (cJ (i:=6) nd rfl (Or.inl rfl)) (dF (cJ (i:=7) nd rfl (Or.inl rfl)) iR))))))
   (Fl.aF (Fl.dJ (PW.pt (Fl.aDA (Fl.bV (cR rfl hr.units) b5 (aC (pv 3)) (aA aD) (bO _)) (Fl.zA (Fl.bV mK jS (aC (pv 3)) (aA (cU rfl (bP b7 rfl T.b_len PySem.boot_len (aJ (aC (pv 1)) aU)))) (bO _))))) (Fl.aF (Fl.aN (L2.aN (i:=8) nd rfl (Or.inl rfl) (aV (aW (aX rfl) aL (aA (hR (fD (aK (cN (pv 5)) (aK (cN (pv 7)) bH))))) (aA (rX (cZ nJ rfl T.b_int PyProof.Rows.boot_int (aJ (aA (jJ mK jS (aC (pv 3)) (aA aD) (bO _))) aU))))))))
   (Fl.aF (Fl.dJ (Fl.oC (aAH (bP (tH rfl (aCH _)) rfl T.b_isinstance PyProof.Rows.boot_isinstance (aJ (aC (pv 8)) (aJ (vP (v:=.ty "str") rfl T.b_str PyProof.Rows.boot_str rfl) aU))))) (Fl.aS (Fl.bK (aV mJ))) Fl.cK)
   (Fl.aS (Fl.bK (aV (c9 (aK (aW (aX rfl) aL (aA (hR (fD (aK aD (aK (cU rfl (bP b7 rfl T.b_len PySem.boot_len (aJ (aC (pv 1)) aU))) bH))))) (aA (rX (cZ nJ rfl T.b_int PyProof.Rows.boot_int (aJ (aA (jJ mK jS (aC (pv 3)) (aA aD) (bO _))) aU))))) (aK (cN (pv 8)) bH)))))))) Fl.cK)
   (Fl.aF (qP (mO rfl (eE (cL 8) (eE (cL 9) kW)) rfl) (eX (aW (aX rfl) aL (aC (pv 6)) (aA (aAI (gK PySem.F.plainAttrs_str PySem.F.slot_str_index PySem.F.type_str_index zP (aA dR) (aJ (aA (aW (aX rfl) aL (aC (pv 1)) (aA (aG fZ eO (aC (pv 3)) (aA aD))))) aU)) (by intro ρ x h;cases h;exact ⟨_,rfl⟩)))) (j7 rfl (dF (cJ (i:=8) nd rfl (Or.inl rfl)) (dF (cJ (i:=9) nd rfl (Or.inl rfl)) iR)))))
   (Fl.aS (Fl.bK (aV (c9 (aK (aG (bY rfl) bL (aC (pv 3)) (aC (pv 9))) (aK (cN (pv 8)) bH)))))))))))
end
end Mc
namespace Mc
open PySem L2 PyProof.Rows Fl
section
variable{P:Program}{w:World}{K:Frag}{mg:Str->Option Value}{base:Heap}{TH:Hp}
theorem oS:FnScope ["_law_machine_here","_law_strip_here","_law_stands_here","_law_met","_law_after"] ["_law_machine_here","_law_strip_here"] (aM (top 33)):=by constructor<;>first|rfl|decide +kernel
theorem wM(T:Txt w K mg)(D:DefAt K mg "_law_stands" (top 33) ["_law_machine_here","_law_strip_here"])(c__law_step:bC P w K mg base TH 1 "_law_step" ["_law_machine_here","_law_strip_here","_law_stand"] fK):bC P w K mg base TH 2 "_law_stands" ["_law_machine_here","_law_strip_here"] dI:=
 @dH P w K mg base TH "_law_stands" (top 33) ["_law_machine_here","_law_strip_here","_law_stands_here","_law_met","_law_after"] ["_law_machine_here","_law_strip_here"] 1 lU D oS (fun f cdv A outer s H F E hr=>by
  have nd:=oS.nd
  exact (Fl.aF (iS (L2.aN (i:=2) nd rfl (Or.inl rfl) (fD (aK (c9 (aK aD (aK aD bH))) bH))))
   (Fl.aF (aCL rfl (L2.aN (i:=3) nd rfl (Or.inl rfl) aCK))
   (Fl.aF (Fl.mG (L2.mG (gN ⟨rfl,rfl⟩) (aFX rfl rfl (vQ (aAK hr.units) (aW (aX rfl) aL (aC (pv 2)) (aA (lE h7 fH (aA aD)))) (pv 3) (by with_unfolding_all rfl)))
   (Fl.aF (Fl.aCM rfl rfl (eX lD (f7 (pv 3) (aW (aX rfl) aL (aC (pv 2)) (aA (lE h7 fH (aA aD)))) (aAL hr.units))))
   (Fl.aF (Fl.aN (L2.aN (i:=4) nd rfl (Or.inl rfl) (cA rfl rfl rfl (bX c__law_step (hr.mono (by decide)) rfl (bW fun _ _ _ h=>h) (aE (aT (pv 0)) (aE (aT (pv 1)) (aE (aV (aW (aX rfl) aL (aC (pv 2)) (aA (lE h7 fH (aA aD))))) bF)))))))
   (Fl.aF (Fl.dJ (Fl.bV aM1 aHS (aC (pv 4)) (aA mJ) (bO _)) (Fl.aS (yV 2 (Fl.bK (aT (pv 2))))) Fl.cK)
   (Fl.aS (oH rfl (L2.dO (gK PySem.F.plainAttrs_list PySem.F.slot_list_append PySem.F.type_list_append iI (pv 2) (aJ (cN (pv 4)) aU))))))))))
   (Fl.aS (yV 2 (Fl.bK (aT (pv 2)))))))))
theorem rF:FnScope ["_law_machine_here","_law_strip_here","_law_place","_law_room"] ["_law_machine_here","_law_strip_here"] (aM (top 34)):=by constructor<;>first|rfl|decide +kernel
theorem aBH(T:Txt w K mg)(D:DefAt K mg "_law_says" (top 34) ["_law_machine_here","_law_strip_here"])(c__law_stands:bC P w K mg base TH 2 "_law_stands" ["_law_machine_here","_law_strip_here"] dI)(c__law_step:bC P w K mg base TH 1 "_law_step" ["_law_machine_here","_law_strip_here","_law_stand"] fK):bC P w K mg base TH 3 "_law_says" ["_law_machine_here","_law_strip_here"] jK:=
 @dH P w K mg base TH "_law_says" (top 34) ["_law_machine_here","_law_strip_here","_law_place","_law_room"] ["_law_machine_here","_law_strip_here"] 2 oB D rF (fun f cdv A outer s H F E hr=>by
  have nd:=rF.nd
  exact (Fl.aF (qP (mO rfl (eE (cL 2) (eE (cL 3) kW)) rfl) (eX (aW (aX rfl) aL (aA (dN (cA rfl rfl rfl (bX c__law_stands (hr.mono (by decide)) rfl (bW fun _ _ _ h=>h) (aE (aT (pv 0)) (aE (aT (pv 1)) bF)))))) (aA (lE h7 fH (aA aD)))) (j7 rfl (dF (cJ (i:=2) nd rfl (Or.inl rfl)) (dF (cJ (i:=3) nd rfl (Or.inl rfl)) iR)))))
   (Fl.aF (Fl.dJ (Fl.bV o6 l5 (aA (dN (cA rfl rfl rfl (bX c__law_step (hr.mono (by decide)) rfl (bW fun _ _ _ h=>h) (aE (aT (pv 0)) (aE (aT (pv 1)) (aE (aV (c9 (aK (cN (pv 2)) (aK (cN (pv 3)) bH)))) bF))))))) (aA mJ) (bO _)) (Fl.aS (Fl.bK (aV dR))) Fl.cK)
   (Fl.aS (Fl.bK (aV (aW (aX rfl) aL (aA (hR (fD (aK (aW (aX rfl) aL (aA (aW (aX rfl) aL (aC (pv 0)) (aC (pv 3)))) (aA aD)) (aK (aW (aX rfl) aL (aA (aW (aX rfl) aL (aC (pv 0)) (aC (pv 3)))) (aA aD)) bH))))) (aA (rX (cZ nJ rfl T.b_int PyProof.Rows.boot_int (aJ (aA (jJ mK jS (aC (pv 2)) (aA aD) (bO _))) aU)))))))))))
theorem n4:FnScope ["_law_stands_here","_law_many","_law_borders_here","_law_k","_law_at_here"] ["_law_stands_here","_law_many"] (aM (top 35)):=by constructor<;>first|rfl|decide +kernel
theorem u9(T:Txt w K mg)(D:DefAt K mg "_law_borders" (top 35) ["_law_stands_here","_law_many"]):bC P w K mg base TH 1 "_law_borders" ["_law_stands_here","_law_many"] dU:=
 @dH P w K mg base TH "_law_borders" (top 35) ["_law_stands_here","_law_many","_law_borders_here","_law_k","_law_at_here"] ["_law_stands_here","_law_many"] 0 lS D n4 (fun f cdv A outer s H F E hr=>by
  have nd:=n4.nd
  exact (Fl.aF (iS (L2.aN (i:=2) nd rfl (Or.inl rfl) (aLD (fD (aK (c9 bH) bH)) (aC (pv 1)))))
   (Fl.aF (Fl.eR (cL 3) (L2.eR (gN ⟨rfl,rfl⟩) rfl (aCF (w5 rfl T.b_range (aJ (aA aD) (aJ (aA (cU rfl (bP b7 rfl T.b_len PySem.boot_len (aJ (aC (pv 0)) aU)))) aU)))) (cJ (i:=3) nd rfl (Or.inl rfl))
   (Fl.aF (Fl.aN (L2.aN (i:=4) nd rfl (Or.inl rfl) (aV (aAO (G:=eQ) (bP (p8 rfl) rfl T.b_min PyProof.Rows.boot_min (aJ (aA (aW (aX rfl) aL (aA (aW (aX rfl) aL (aC (pv 0)) (aA (aG fZ eO (aC (pv 3)) (aA aD))))) (aA aD))) (aJ (aA (aW (aX rfl) aL (aA (aW (aX rfl) aL (aC (pv 0)) (aC (pv 3)))) (aA aD))) aU)))))))
   (Fl.aS (aM3 (eX (aG (tR rfl) pH (aA (aW (aX rfl) aL (aC (pv 2)) (aC (pv 4)))) (aA (c9 (aK (aW (aX rfl) aL (aA (aW (aX rfl) aL (aC (pv 0)) (aC (pv 3)))) (aA aD)) bH)))) (f7 (pv 2) (aC (pv 4)) fC)))))))
   (Fl.aS (Fl.bK (aV (gH rfl (cZ dW rfl T.b_tuple PyProof.Rows.boot_tuple (aJ (aC (pv 2)) aU)))))))))
theorem pU:FnScope ["_law_machine_here","_law_strip_here","_law_stands_here","_law_word"] ["_law_machine_here","_law_strip_here"] (aM (top 36)):=by constructor<;>first|rfl|decide +kernel
theorem yG(T:Txt w K mg)(D:DefAt K mg "_law_paper" (top 36) ["_law_machine_here","_law_strip_here"])(c__law_stands:bC P w K mg base TH 2 "_law_stands" ["_law_machine_here","_law_strip_here"] dI)(c__law_says:bC P w K mg base TH 3 "_law_says" ["_law_machine_here","_law_strip_here"] jK)(c__law_borders:bC P w K mg base TH 1 "_law_borders" ["_law_stands_here","_law_many"] dU):bC P w K mg base TH 4 "_law_paper" ["_law_machine_here","_law_strip_here"] eU:=
 @dH P w K mg base TH "_law_paper" (top 36) ["_law_machine_here","_law_strip_here","_law_stands_here","_law_word"] ["_law_machine_here","_law_strip_here"] 3 j0 D pU (fun f cdv A outer s H F E hr=>by
  have nd:=pU.nd
  exact (Fl.aF (Fl.aN (L2.aN (i:=2) nd rfl (Or.inl rfl) (cA rfl rfl rfl (bX c__law_stands (hr.mono (by decide)) rfl (bW fun _ _ _ h=>h) (aE (aT (pv 0)) (aE (aT (pv 1)) bF))))))
   (Fl.aF (Fl.aN (L2.aN (i:=3) nd rfl (Or.inl rfl) (cA rfl rfl rfl (bX c__law_says (hr.mono (by decide)) rfl (bW fun _ _ _ h=>h) (aE (aT (pv 0)) (aE (aT (pv 1)) bF))))))
   (Fl.aF (Fl.dJ (Fl.bV (cR rfl hr.units) b5 (aC (pv 3)) (aA dR) (bO _)) (Fl.aS (Fl.bK (aV (c9 (aK (cN (pv 3)) (aK (aW (aX rfl) aL (aA (aW (aX rfl) aL (aC (pv 2)) (aA (lE h7 fH (aA aD))))) (aA aD)) (aK (aW (aX rfl) aL (aA (aW (aX rfl) aL (aC (pv 2)) (aA (lE h7 fH (aA aD))))) (aA aD)) (aK (xW rfl (gK PySem.F.plainAttrs_list PySem.F.slot_list_index PySem.F.type_list_index (xV hr.units) (aC (pv 2)) (aJ (aA (aW (aX rfl) aL (aC (pv 2)) (aA (lE h7 fH (aA aD))))) aU))) (aK (aG fZ eO (aA (cU rfl (bP b7 rfl T.b_len PySem.boot_len (aJ (aC (pv 2)) aU)))) (aA aD)) bH))))))))) Fl.cK)
   (Fl.aS (Fl.bK (aV (c9 (aK (cN (pv 3)) (aK (dN (cA rfl rfl rfl (bX c__law_borders (hr.mono (by decide)) rfl (bW fun _ _ _ h=>h) (aE (aT (pv 2)) (aE (aV (aG (bY rfl) bL (aA (cU rfl (bP b7 rfl T.b_len PySem.boot_len (aJ (aC (pv 1)) aU)))) (aA aD))) bF))))) bH))))))))))
theorem pV:FnScope ["_law_script","_law_rooms","_law_signs","_law_size"] ["_law_script"] (aM (top 37)):=by constructor<;>first|rfl|decide +kernel
theorem yH(T:Txt w K mg)(D:DefAt K mg "_law_drawn" (top 37) ["_law_script"])(c__law_cell:bC P w K mg base TH 1 "_law_cell" ["_law_script","_law_k"] a8)(c__law_strip:bC P w K mg base TH 2 "_law_strip" ["_law_script","_law_at_here","_law_size","_law_signs"] jZ)(c__law_machine:bC P w K mg base TH 3 "_law_machine" ["_law_script","_law_at_here","_law_rooms","_law_signs"] iO):bC P w K mg base TH 4 "_law_drawn" ["_law_script"] fS:=
 @dH P w K mg base TH "_law_drawn" (top 37) ["_law_script","_law_rooms","_law_signs","_law_size"] ["_law_script"] 3 nB D pV (fun f cdv A outer s H F E hr=>by
  have nd:=pV.nd
  exact (Fl.aF (Fl.aN (L2.aN (i:=1) nd rfl (Or.inl rfl) (aV (aG (bY rfl) bL (aA aD) (aA (aG bG aZ (aA (dN (cA rfl rfl rfl (bX c__law_cell (hr.mono (by decide)) rfl (bW fun _ _ _ h=>h) (aE (aT (pv 0)) (aE (aV aD) bF)))))) (aA aD)))))))
   (Fl.aF (Fl.aN (L2.aN (i:=2) nd rfl (Or.inl rfl) (aV (aG (bY rfl) bL (aA aD) (aA (aG bG aZ (aA (dN (cA rfl rfl rfl (bX c__law_cell (hr.mono (by decide)) rfl (bW fun _ _ _ h=>h) (aE (aT (pv 0)) (aE (aV aD) bF)))))) (aA aD)))))))
   (Fl.aF (Fl.aN (L2.aN (i:=3) nd rfl (Or.inl rfl) (aV (aG bG aZ (aA (dN (cA rfl rfl rfl (bX c__law_cell (hr.mono (by decide)) rfl (bW fun _ _ _ h=>h) (aE (aT (pv 0)) (aE (aV aD) bF)))))) (aA (aW (aX rfl) aL (aA (hR (fD (aK aD (aK aD (aK aD (aK aD bH))))))) (aA (aG bG aZ (aA (aG c8 cD (aA (dN (cA rfl rfl rfl (bX c__law_cell (hr.mono (by decide)) rfl (bW fun _ _ _ h=>h) (aE (aT (pv 0)) (aE (aV aD) bF)))))) (aA aD))) (aA aD)))))))))
   (Fl.aS (Fl.bK (aV (c9 (aK (dN (cA rfl rfl rfl (bX c__law_machine (hr.mono (by decide)) rfl (bW fun _ _ _ h=>h) (aE (aT (pv 0)) (aE (aV aD) (aE (aT (pv 1)) (aE (aT (pv 2)) bF))))))) (aK (dN (cA rfl rfl rfl (bX c__law_strip (hr.mono (by decide)) rfl (bW fun _ _ _ h=>h) (aE (aT (pv 0)) (aE (aV aD) (aE (aT (pv 3)) (aE (aT (pv 2)) bF))))))) bH))))))))))
end
end Mc
namespace Mc
open PySem L2 PyProof.Rows Fl
section
variable{P:Program}{w:World}{K:Frag}{mg:Str->Option Value}{base:Heap}{TH:Hp}
theorem vA:FnScope ["_law_borders_here","_law_cell_here","_law_k","_law_at_here"] ["_law_borders_here","_law_cell_here"] (aM (top 38)):=by constructor<;>first|rfl|decide +kernel
theorem aEK(T:Txt w K mg)(D:DefAt K mg "_law_at" (top 38) ["_law_borders_here","_law_cell_here"]):bC P w K mg base TH 1 "_law_at" ["_law_borders_here","_law_cell_here"] dX:=
 @dH P w K mg base TH "_law_at" (top 38) ["_law_borders_here","_law_cell_here","_law_k","_law_at_here"] ["_law_borders_here","_law_cell_here"] 0 lV D vA (fun f cdv A outer s H F E hr=>by
  have nd:=vA.nd
  exact (Fl.aF (Fl.eR (cL 2) (L2.eR (gN ⟨rfl,rfl⟩) rfl (kX (iH rfl T.b_range (aJ (aA (cU rfl (bP b7 rfl T.b_len PySem.boot_len (aJ (aC (pv 0)) aU)))) aU))) (cJ (i:=2) nd rfl (Or.inl rfl))
   (Fl.aF (Fl.aN (L2.aN (i:=3) nd rfl (Or.inl rfl) (aV (aG bG aZ (aA (aG (bY rfl) bL (aC (pv 1)) (aC (pv 2)))) (aA (cU rfl (bP b7 rfl T.b_len PySem.boot_len (aJ (aC (pv 0)) aU))))))))
   (Fl.aS (Fl.dJ (Fl.bV mK jS (aA (cU rfl (bP b7 rfl T.b_len PySem.boot_len (aJ (aA (aW (aX rfl) aL (aC (pv 0)) (aC (pv 3)))) aU)))) (aA aD) (bO _)) (Fl.aS (Fl.bK (aT (pv 3)))) Fl.cK)))))
   (Fl.aS (Fl.bK (aV mJ)))))
theorem kO:FnScope ["_law_borders_here","_law_at_here","_law_cell_here","_law_rooms","_law_row","_law_spot"] ["_law_borders_here","_law_at_here","_law_cell_here","_law_rooms"] (aM (top 39)):=by constructor<;>first|rfl|decide +kernel
theorem pW(T:Txt w K mg)(D:DefAt K mg "_law_room_spoilt" (top 39) ["_law_borders_here","_law_at_here","_law_cell_here","_law_rooms"]):nA P w K mg base TH 1 "_law_room_spoilt" ["_law_borders_here","_law_at_here","_law_cell_here","_law_rooms"] dB:=
 @wL P w K mg base TH "_law_room_spoilt" (top 39) ["_law_borders_here","_law_at_here","_law_cell_here","_law_rooms","_law_row","_law_spot"] ["_law_borders_here","_law_at_here","_law_cell_here","_law_rooms"] 0 fU D kO (fun f cdv A outer s H F E H0 hr=>by
  have nd:=kO.nd
  exact (cI (pI (by decide) (L2.aN (i:=4) nd rfl (Or.inl rfl) (rW rfl (cZ j8 rfl T.b_list PyProof.Rows.boot_list (aJ (aA (aW (aX rfl) aL (aC (pv 0)) (aC (pv 1)))) aU)))))
   (cI (k8 (by decide) (L2.aN (i:=5) nd rfl (Or.inl rfl) (aV (aG bG aZ (aA (aG c8 cD (aC (pv 2)) (aA aD))) (aA (cU rfl (bP b7 rfl T.b_len PySem.boot_len (aJ (aC (pv 4)) aU))))))))
   (cI (jM (Fl.bV (cR rfl hr.units) b5 (aA (aG bG aZ (aC (pv 2)) (aA aD))) (aA aD) (bO _)) (eS (k9 (eX (aG bG aZ (aA (aG (bY rfl) bL (aA (aG (bY rfl) bL (aA (aW (aX rfl) aL (aC (pv 4)) (aC (pv 5)))) (aA aD))) (aA (aG bG aZ (aA (aG c8 cD (aC (pv 2)) (aA aD))) (aA aD))))) (aA (aG (bY rfl) bL (aC (pv 3)) (aA aD)))) (f7 (pv 4) (aC (pv 5)) fC)))) gI)
   (cI (jM (Fl.bV (cR rfl hr.units) b5 (aA (aG bG aZ (aC (pv 2)) (aA aD))) (aA aD) (bO _)) (eS (x0 (L2.dO (gK PySem.F.plainAttrs_list PySem.F.slot_list_pop PySem.F.type_list_pop zH (pv 4) (aJ (cN (pv 5)) aU))))) gI)
   (cI (jM (Fl.bV (cR rfl hr.units) b5 (aA (aG bG aZ (aC (pv 2)) (aA aD))) (aA aD) (bO _)) (eS (aCY (L2.dO (gK PySem.F.plainAttrs_list PySem.F.slot_list_insert PySem.F.type_list_insert xX (pv 4) (aJ (cN (pv 5)) (aJ (aW (aX rfl) aL (aC (pv 4)) (aC (pv 5))) aU)))))) gI)
   (cI (jM (Fl.bV (cR rfl hr.units) b5 (aA (aG bG aZ (aC (pv 2)) (aA aD))) (aA aD) (bO _)) (eS (k9 (eX (aW (aX rfl) aL (aA (hR (fD (aK (lE h7 fH (aA aD)) (aK (cN (pv 3)) (aK (aG fZ eO (aA (aW (aX rfl) aL (aC (pv 4)) (aC (pv 5)))) (aC (pv 3))) (aK (aG aLA aGF (aA aD) (aA aD)) bH))))))) (aA (aG bG aZ (aA (aG c8 cD (aC (pv 2)) (aA aD))) (aA aD)))) (f7 (pv 4) (aC (pv 5)) fC)))) gI)
   (cI (jM (Fl.bV (cR rfl hr.units) b5 (aA (aG bG aZ (aC (pv 2)) (aA aD))) (aA aD) (bO _)) (eS (pI (by decide) (L2.aN (i:=4) nd rfl (Or.inl rfl) (aHZ rfl (aC (pv 4)) uO (uP (aC (pv 5))))))) gI)
   (eS (k9 (eX (gH rfl (cZ dW rfl T.b_tuple PyProof.Rows.boot_tuple (aJ (aC (pv 4)) aU))) (f7 (pv 0) (aC (pv 1)) fC))))))))))))
theorem lT:FnScope ["_law_borders_here","_law_at_here","_law_cell_here","_law_rooms","_law_there","_law_kind","_law_near"] ["_law_borders_here","_law_at_here","_law_cell_here","_law_rooms"] (aM (top 40)):=by constructor<;>first|rfl|decide +kernel
theorem rG(T:Txt w K mg)(D:DefAt K mg "_law_two_spoilt" (top 40) ["_law_borders_here","_law_at_here","_law_cell_here","_law_rooms"]):nA P w K mg base TH 1 "_law_two_spoilt" ["_law_borders_here","_law_at_here","_law_cell_here","_law_rooms"] dE:=
 @wL P w K mg base TH "_law_two_spoilt" (top 40) ["_law_borders_here","_law_at_here","_law_cell_here","_law_rooms","_law_there","_law_kind","_law_near"] ["_law_borders_here","_law_at_here","_law_cell_here","_law_rooms"] 0 fY D lT (fun f cdv A outer s H F E H0 hr=>by
  have nd:=lT.nd
  exact (cI (k8 (by decide) (L2.aN (i:=4) nd rfl (Or.inl rfl) (aV (aG bG aZ (aA (aG (bY rfl) bL (aA (aG (bY rfl) bL (aC (pv 1)) (aA aD))) (aA (aG bG aZ (aA (aG c8 cD (aC (pv 2)) (aA aD))) (aA (cU rfl (bP b7 rfl T.b_len PySem.boot_len (aJ (aC (pv 0)) aU)))))))) (aA (cU rfl (bP b7 rfl T.b_len PySem.boot_len (aJ (aC (pv 0)) aU))))))))
   (cI (k8 (by decide) (L2.aN (i:=5) nd rfl (Or.inl rfl) (aV (aG bG aZ (aC (pv 2)) (aA aD)))))
   (cI (jM (Fl.bV (cR rfl hr.units) b5 (aC (pv 5)) (aA aD) (bO _)) (eS (aCZ (eX (c9 (aK (aW (aX rfl) aL (aC (pv 0)) (aC (pv 4))) (aK (aW (aX rfl) aL (aC (pv 0)) (aC (pv 1))) bH))) (j7 rfl (dF (f7 (pv 0) (aC (pv 1)) fC) (dF (f7 (pv 0) (aC (pv 4)) fC) iR)))) rfl)) gI)
   (cI (jM (Fl.bV (cR rfl hr.units) b5 (aC (pv 5)) (aA aD) (bO _)) (eS (x0 (L2.dO (gK PySem.F.plainAttrs_list PySem.F.slot_list_pop PySem.F.type_list_pop zH (pv 0) (aJ (cN (pv 1)) aU))))) gI)
   (cI (jM (Fl.bV (cR rfl hr.units) b5 (aC (pv 5)) (aA aD) (bO _)) (eS (aCY (L2.dO (gK PySem.F.plainAttrs_list PySem.F.slot_list_insert PySem.F.type_list_insert xX (pv 0) (aJ (cN (pv 4)) (aJ (aW (aX rfl) aL (aC (pv 0)) (aC (pv 1))) aU)))))) gI)
   (eS (jM (Fl.bV (cR rfl hr.units) b5 (aC (pv 5)) (aA aD) (bO _)) (cI (k8 (by decide) (L2.aN (i:=6) nd rfl (Or.inl rfl) (aV (aAO (G:=eQ) (bP (p8 rfl) rfl T.b_min PyProof.Rows.boot_min (aJ (aA (aG (bY rfl) bL (aC (pv 1)) (aA aD))) (aJ (aA (aG fZ eO (aA (cU rfl (bP b7 rfl T.b_len PySem.boot_len (aJ (aC (pv 0)) aU)))) (aA aD))) aU)))))))
   (cI (k9 (eX (aG (tR rfl) pH (aA (aW (aX rfl) aL (aC (pv 0)) (aC (pv 1)))) (aA (c9 (aK (aG bG aZ (aA (aG c8 cD (aC (pv 2)) (aA aD))) (aC (pv 3))) bH)))) (f7 (pv 0) (aC (pv 1)) fC)))
   (eS (k9 (eX (aG (tR rfl) pH (aA (aW (aX rfl) aL (aC (pv 0)) (aC (pv 6)))) (aA (c9 (aK (aG bG aZ (aA (aG c8 cD (aC (pv 2)) (aA aD))) (aC (pv 3))) bH)))) (f7 (pv 0) (aC (pv 6)) fC)))))) gI))))))))
theorem lZ:FnScope ["_law_borders_here","_law_at_here","_law_cell_here","_law_there","_law_one","_law_spot","_law_two","_law_other_spot"] ["_law_borders_here","_law_at_here","_law_cell_here"] (aM (top 41)):=by constructor<;>first|rfl|decide +kernel
theorem sM(T:Txt w K mg)(D:DefAt K mg "_law_exchanged" (top 41) ["_law_borders_here","_law_at_here","_law_cell_here"])(c__law_at:bC P w K mg base TH 1 "_law_at" ["_law_borders_here","_law_cell_here"] dX):nA P w K mg base TH 2 "_law_exchanged" ["_law_borders_here","_law_at_here","_law_cell_here"] dM:=
 @wL P w K mg base TH "_law_exchanged" (top 41) ["_law_borders_here","_law_at_here","_law_cell_here","_law_there","_law_one","_law_spot","_law_two","_law_other_spot"] ["_law_borders_here","_law_at_here","_law_cell_here"] 1 gJ D lZ (fun f cdv A outer s H F E H0 hr=>by
  have nd:=lZ.nd
  exact (cI (k8 (by decide) (L2.aN (i:=3) nd rfl (Or.inl rfl) (aGI rfl rfl rfl (bX c__law_at (hr.mono (by decide)) rfl (bW fun _ _ _ h=>h) (aJ (pv 0) (aE (aV (aG (bY rfl) bL (aA (aG (bY rfl) bL (aC (pv 1)) (aA aD))) (aA (aG bG aZ (aC (pv 2)) (aA (cU rfl (bP b7 rfl T.b_len PySem.boot_len (aJ (aC (pv 0)) aU)))))))) bF))))))
   (cI (pI (by decide) (L2.aN (i:=4) nd rfl (Or.inl rfl) (rW rfl (cZ j8 rfl T.b_list PyProof.Rows.boot_list (aJ (aA (aW (aX rfl) aL (aC (pv 0)) (aC (pv 1)))) aU)))))
   (cI (k8 (by decide) (L2.aN (i:=5) nd rfl (Or.inl rfl) (aV (aG bG aZ (aA (aG c8 cD (aC (pv 2)) (aA aD))) (aA (cU rfl (bP b7 rfl T.b_len PySem.boot_len (aJ (aC (pv 4)) aU))))))))
   (cI (pI (by decide) (L2.aN (i:=6) nd rfl (Or.inl rfl) (rW rfl (cZ j8 rfl T.b_list PyProof.Rows.boot_list (aJ (aA (aW (aX rfl) aL (aC (pv 0)) (aC (pv 3)))) aU)))))
   (cI (k8 (by decide) (L2.aN (i:=7) nd rfl (Or.inl rfl) (aV (aG bG aZ (aA (aG c8 cD (aC (pv 2)) (aA aD))) (aA (cU rfl (bP b7 rfl T.b_len PySem.boot_len (aJ (aC (pv 6)) aU))))))))
   (cI (jM (Fl.bV (aM0 rfl hr.units) aHR (aC (pv 3)) (aC (pv 1)) (bO _)) (cI (aCZ (eX (c9 (aK (aW (aX rfl) aL (aC (pv 6)) (aC (pv 7))) (aK (aW (aX rfl) aL (aC (pv 4)) (aC (pv 5))) bH))) (j7 rfl (dF (f7 (pv 4) (aC (pv 5)) fC) (dF (f7 (pv 6) (aC (pv 7)) fC) iR)))) rfl)
   (eS (k9 (eX (gH rfl (cZ dW rfl T.b_tuple PyProof.Rows.boot_tuple (aJ (aC (pv 6)) aU))) (f7 (pv 0) (aC (pv 3)) fC))))) gI)
   (eS (k9 (eX (gH rfl (cZ dW rfl T.b_tuple PyProof.Rows.boot_tuple (aJ (aC (pv 4)) aU))) (f7 (pv 0) (aC (pv 1)) fC)))))))))))
theorem oU:FnScope ["_law_word","_law_borders_here","_law_cell_here","_law_rooms","_law_kind","_law_at_here"] ["_law_word","_law_borders_here","_law_cell_here","_law_rooms"] (aM (top 42)):=by constructor<;>first|rfl|decide +kernel
theorem wN(T:Txt w K mg)(D:DefAt K mg "_law_spoilt" (top 42) ["_law_word","_law_borders_here","_law_cell_here","_law_rooms"])(c__law_at:bC P w K mg base TH 1 "_law_at" ["_law_borders_here","_law_cell_here"] dX)(c__law_room_spoilt:nA P w K mg base TH 1 "_law_room_spoilt" ["_law_borders_here","_law_at_here","_law_cell_here","_law_rooms"] dB)(c__law_exchanged:nA P w K mg base TH 2 "_law_exchanged" ["_law_borders_here","_law_at_here","_law_cell_here"] dM)(c__law_two_spoilt:nA P w K mg base TH 1 "_law_two_spoilt" ["_law_borders_here","_law_at_here","_law_cell_here","_law_rooms"] dE):bC P w K mg base TH 3 "_law_spoilt" ["_law_word","_law_borders_here","_law_cell_here","_law_rooms"] eN:=
 @dH P w K mg base TH "_law_spoilt" (top 42) ["_law_word","_law_borders_here","_law_cell_here","_law_rooms","_law_kind","_law_at_here"] ["_law_word","_law_borders_here","_law_cell_here","_law_rooms"] 2 jC D oU (fun f cdv A outer s H F E hr=>by
  have nd:=oU.nd
  exact (Fl.aF (iS (L2.aN (i:=1) nd rfl (Or.inl rfl) (rW rfl (cZ j8 rfl T.b_list PyProof.Rows.boot_list (aJ (aC (pv 1)) aU)))))
   (Fl.aF (Fl.aN (L2.aN (i:=4) nd rfl (Or.inl rfl) (aV (aG bG aZ (aC (pv 2)) (aA aD)))))
   (Fl.aF (Fl.aN (L2.aN (i:=2) nd rfl (Or.inl rfl) (aV (aG c8 cD (aC (pv 2)) (aA aD)))))
   (Fl.aF (Fl.aN (L2.aN (i:=5) nd rfl (Or.inl rfl) (aGI rfl rfl rfl (bX c__law_at (hr.mono (by decide)) rfl (bW fun _ _ _ h=>h) (aJ (pv 1) (aE (aV (aG bG aZ (aC (pv 2)) (aA aD))) bF))))))
   (Fl.aF (Fl.aN (L2.aN (i:=2) nd rfl (Or.inl rfl) (aV (aG c8 cD (aC (pv 2)) (aA aD)))))
   (Fl.aF (Fl.dJ (Fl.bV (cR rfl hr.units) b5 (aC (pv 4)) (aA aD) (bO _)) (Fl.aS (Fl.aN (L2.aN (i:=0) nd rfl (Or.inl rfl) (aV (aW (aX rfl) aL (aA (hR (fD (aK dR (aK dR bH))))) (aA (rX (cZ nJ rfl T.b_int PyProof.Rows.boot_int (aJ (aA (jJ (cR rfl hr.units) b5 (aC (pv 0)) (aA dR) (bO _))) aU))))))))) (Fl.aS (Fl.dJ (PW.pt (Fl.lM (Fl.bV o6 l5 (aC (pv 5)) (aA mJ) (bO _)) (Fl.kQ (Fl.bV qJ mL (aC (pv 4)) (aA aD) (bO _))))) (Fl.aS (tU rfl rfl rfl (L2.dO (bX c__law_room_spoilt (hr.mono (by decide)) rfl (bW fun _ _ _ h=>h) (aJ (pv 1) (aE (aT (pv 5)) (aE (aT (pv 2)) (aE (aT (pv 3)) bF)))))))) (Fl.aS (Fl.dJ (PW.pt (Fl.lM (Fl.bV o6 l5 (aC (pv 5)) (aA mJ) (bO _)) (Fl.kQ (Fl.bV (cR rfl hr.units) b5 (aC (pv 4)) (aA aD) (bO _))))) (Fl.aS (tU rfl rfl rfl (L2.dO (bX c__law_exchanged (hr.mono (by decide)) rfl (bW fun _ _ _ h=>h) (aJ (pv 1) (aE (aT (pv 5)) (aE (aT (pv 2)) bF))))))) (Fl.aS (Fl.dJ (Fl.bV o6 l5 (aC (pv 5)) (aA mJ) (bO _)) (Fl.aS (tU rfl rfl rfl (L2.dO (bX c__law_two_spoilt (hr.mono (by decide)) rfl (bW fun _ _ _ h=>h) (aJ (pv 1) (aE (aT (pv 5)) (aE (aT (pv 2)) (aE (aT (pv 3)) bF)))))))) Fl.cK)))))))
   (Fl.aS (Fl.bK (aV (c9 (aK (cN (pv 0)) (aK (gH rfl (cZ dW rfl T.b_tuple PyProof.Rows.boot_tuple (aJ (aC (pv 1)) aU))) bH)))))))))))))
end
end Mc
namespace Mc
open PySem L2 PyProof.Rows Fl
section
variable{P:Program}{w:World}{K:Frag}{mg:Str->Option Value}{base:Heap}{TH:Hp}
theorem aGJ:FnScope ["_law_script","_law_machine_here","_law_strip_here","_law_paper_here","_law_word","_law_borders_here","_law_k","_law_spoilt_here"] ["_law_script"] (aM (top 43)):=by constructor<;>first|rfl|decide +kernel
theorem aNP(T:Txt w K mg){fL:Addr}{fdL:FuncData}(FL:Fun K "law" "law" (top 43) fL fdL)(c__law_drawn:bC P w K mg base TH 4 "_law_drawn" ["_law_script"] fS)(c__law_paper:bC P w K mg base TH 4 "_law_paper" ["_law_machine_here","_law_strip_here"] eU)(c__law_cell:bC P w K mg base TH 1 "_law_cell" ["_law_script","_law_k"] a8)(c__law_borders:bC P w K mg base TH 1 "_law_borders" ["_law_stands_here","_law_many"] dU)(c__law_stands:bC P w K mg base TH 2 "_law_stands" ["_law_machine_here","_law_strip_here"] dI)(c_holds:bC P w K mg base TH 7 "holds" ["machine","strip","paper"] gU)(c__law_spoilt:bC P w K mg base TH 3 "_law_spoilt" ["_law_word","_law_borders_here","_law_cell_here","_law_rooms"] eN)(c__law_truth:bC P w K mg base TH 1 "_law_truth" ["_law_found","_law_due"] gS):FnOk P w K mg base (CXe P w) 8 fL fdL ["_law_script"] (spF (gOf P w K mg base TH) K mg 1 aEH):=
 @aM7 P w K mg base TH "law" (top 43) ["_law_script","_law_machine_here","_law_strip_here","_law_paper_here","_law_word","_law_borders_here","_law_k","_law_spoilt_here"] ["_law_script"] 7 fL fdL aEG FL aGJ (fun cdv A outer s H F E hr=>by
  have nd:=aGJ.nd
  exact (Fl.aF (qP (mO rfl (eE (cL 1) (eE (cL 2) kW)) rfl) (eX (dN (cA rfl rfl rfl (bX c__law_drawn (hr.mono (by decide)) rfl (bW fun _ _ _ h=>h) (aE (aT (pv 0)) bF)))) (j7 rfl (dF (cJ (i:=1) nd rfl (Or.inl rfl)) (dF (cJ (i:=2) nd rfl (Or.inl rfl)) iR)))))
   (Fl.aF (Fl.aN (L2.aN (i:=3) nd rfl (Or.inl rfl) (cA rfl rfl rfl (bX c__law_paper (hr.mono (by decide)) rfl (bW fun _ _ _ h=>h) (aE (aT (pv 1)) (aE (aT (pv 2)) bF))))))
   (Fl.aF (Fl.aN (L2.aN (i:=4) nd rfl (Or.inl rfl) (aV (aW (aX rfl) aL (aC (pv 3)) (aA aD)))))
   (Fl.aF (Fl.aN (L2.aN (i:=5) nd rfl (Or.inl rfl) (aV (aW (aX rfl) aL (aC (pv 3)) (aA aD)))))
   (Fl.aF (Fl.dJ (Fl.bV (cR rfl hr.units) b5 (aC (pv 4)) (aA dR) (bO _)) (Fl.aF (Fl.aN (L2.aN (i:=4) nd rfl (Or.inl rfl) (aV (aW (aX rfl) aL (aA (hR (fD (aK dR (aK dR bH))))) (aA (aG bG aZ (aA (dN (cA rfl rfl rfl (bX c__law_cell (hr.mono (by decide)) rfl (bW fun _ _ _ h=>h) (aE (aT (pv 0)) (aE (aV aD) bF)))))) (aA aD)))))))
   (Fl.aF (Fl.aN (L2.aN (i:=5) nd rfl (Or.inl rfl) (cA rfl rfl rfl (bX c__law_borders (hr.mono (by decide)) rfl (bW fun _ _ _ h=>h) (aE (cA rfl rfl rfl (bX c__law_stands (hr.mono (by decide)) rfl (bW fun _ _ _ h=>h) (aE (aT (pv 1)) (aE (aT (pv 2)) bF)))) (aE (aV (aG (bY rfl) bL (aA (cU rfl (bP b7 rfl T.b_len PySem.boot_len (aJ (aC (pv 2)) aU)))) (aA aD))) bF))))))
   (Fl.aS (Fl.dJ (Fl.bV aGG aBW (aA (dN (cA rfl rfl rfl (bX c_holds (hr.mono (by decide)) rfl (bW fun _ _ _ h=>h) (aE (aT (pv 1)) (aE (aT (pv 2)) (aE (aV (c9 (aK (cN (pv 4)) (aK (cN (pv 5)) bH)))) bF))))))) (aA lD) (bO _)) (Fl.aS (Fl.bK (aV lD))) Fl.cK)))) Fl.cK)
   (Fl.aF (Fl.eR (cL 6) (L2.eR (gN ⟨rfl,rfl⟩) rfl (aCF (w5 rfl T.b_range (aJ (aA aD) (aJ (aA aD) aU)))) (cJ (i:=6) nd rfl (Or.inl rfl))
   (Fl.aF (Fl.aN (L2.aN (i:=7) nd rfl (Or.inl rfl) (cA rfl rfl rfl (bX c__law_spoilt (hr.mono (by decide)) rfl (bW fun _ _ _ h=>h) (aE (aT (pv 4)) (aE (aT (pv 5)) (aE (aV (aKU (G:=wF) (bP aGZ rfl T.b_abs PyProof.Rows.boot_abs (aJ (aA (dN (cA rfl rfl rfl (bX c__law_cell (hr.mono (by decide)) rfl (bW fun _ _ _ h=>h) (aE (aT (pv 0)) (aE (aT (pv 6)) bF)))))) aU)))) (aE (aV (cU rfl (bP b7 rfl T.b_len PySem.boot_len (aJ (aC (pv 1)) aU)))) bF))))))))
   (Fl.aS (Fl.dJ (Fl.t5 (Fl.oC (dN (cA rfl rfl rfl (bX c__law_truth (hr.mono (by decide)) rfl (bW fun _ _ _ h=>h) (aE (cA rfl rfl rfl (bX c_holds (hr.mono (by decide)) rfl (bW fun _ _ _ h=>h) (aE (aT (pv 1)) (aE (aT (pv 2)) (aE (aT (pv 7)) bF))))) (aE (aV (jJ (cR rfl hr.units) b5 (aC (pv 7)) (aC (pv 3)) (bO _))) bF))))))) (Fl.aS (Fl.bK (aV lD))) Fl.cK)))))
   (Fl.aS (Fl.bK (aV lD))))))))))
end
end Mc
namespace Fl
open PySem L2 PyProof.Rows
@[simp] theorem aQD(i:Nat)(f g:Sg->R PyData)(ρ:Sg):aO4 i f g ρ=match ρ[i]? with
 | some (some (.m kvs))=>(f ρ).bind fun k=>(g ρ).bind fun y=>if eW k (kvs.map (·.1))=true/\kvs.length<=16777216 then .ok (.nx (if fX kvs k=true then ρ else ρ.set i (some (.m (putM kvs k y))))) else .bad
 | _=>.bad:=id rfl
@[simp] theorem aQP(i:Nat)(ρ:Sg):aP6 i ρ=match ρ[i]? with
 | some (some (.l xs))=>.ok (.nx (ρ.set i (some (.l xs.reverse))))
 | _=>.bad:=id rfl
end Fl
namespace Mc
open PySem L2 PyProof.Rows Fl
mutual
def nbD:PyData->Bool
 | .bool _=>false
 | .dict _=>false
 | .list xs=>pK xs
 | .tuple xs=>pK xs
 | _=>true
def pK:List PyData->Bool
 | []=>true
 | x::t=>nbD x && pK t
end
theorem wO:∀ {xs:List PyData},(∀ x∈xs,nbD x=true)->pK xs=true
 | [],_=>rfl
 | x::t,h=>by
  show (nbD x && pK t)=true
  rw[h x List.mem_cons_self,wO fun y hy=>h y (List.mem_cons_of_mem _ hy)];rfl
mutual
theorem aBI:∀ d:PyData,d.canLay0=true->d.eqv d=true
 | .none,_=>by rfl
 | .bool b,_=>by simp[PyData.eqv]
 | .int i,_=>by simp[PyData.eqv]
 | .str x,_=>by simp[PyData.eqv]
 | .list xs,h=>by
  show PyData.eqvAll xs xs=true
  exact wP xs h
 | .tuple xs,h=>by
  show PyData.eqvAll xs xs=true
  exact wP xs h
 | .dict _,h=>by cases h
theorem wP:∀ xs:List PyData,PyData.canLayAll0 xs=true->PyData.eqvAll xs xs=true
 | [],_=>by rfl
 | x::t,h=>by
  have h':(x.canLay0 && PyData.canLayAll0 t)=true:=h
  rw[Bool.and_eq_true] at h'
  show (x.eqv x && PyData.eqvAll t t)=true
  rw[aBI x h'.1,wP t h'.2];rfl
end
mutual
theorem aGK:∀ x y:PyData,nbD x=true->nbD y=true->x.eqv y=true->x=y
 | .none,.none,_,_,_=>rfl
 | .int i,.int j,_,_,h=>by simp[PyData.eqv] at h;rw[h]
 | .str i,.str j,_,_,h=>by simp[PyData.eqv] at h;rw[h]
 | .list xs,.list ys,h1,h2,h=>by rw[wQ xs ys h1 h2 h]
 | .tuple xs,.tuple ys,h1,h2,h=>by rw[wQ xs ys h1 h2 h]
 | .bool _,_,h,_,_=>by cases h
 | .dict _,_,h,_,_=>by cases h
 | _,.bool _,_,h,_=>by cases h
 | _,.dict _,_,h,_=>by cases h
 | .none,.int _,_,_,h=>by simp[PyData.eqv] at h
 | .none,.str _,_,_,h=>by simp[PyData.eqv] at h
 | .none,.list _,_,_,h=>by simp[PyData.eqv] at h
 | .none,.tuple _,_,_,h=>by simp[PyData.eqv] at h
 | .int _,.none,_,_,h=>by simp[PyData.eqv] at h
 | .int _,.str _,_,_,h=>by simp[PyData.eqv] at h
 | .int _,.list _,_,_,h=>by simp[PyData.eqv] at h
 | .int _,.tuple _,_,_,h=>by simp[PyData.eqv] at h
 | .str _,.none,_,_,h=>by simp[PyData.eqv] at h
 | .str _,.int _,_,_,h=>by simp[PyData.eqv] at h
 | .str _,.list _,_,_,h=>by simp[PyData.eqv] at h
 | .str _,.tuple _,_,_,h=>by simp[PyData.eqv] at h
 | .list _,.none,_,_,h=>by simp[PyData.eqv] at h
 | .list _,.int _,_,_,h=>by simp[PyData.eqv] at h
 | .list _,.str _,_,_,h=>by simp[PyData.eqv] at h
 | .list _,.tuple _,_,_,h=>by simp[PyData.eqv] at h
 | .tuple _,.none,_,_,h=>by simp[PyData.eqv] at h
 | .tuple _,.int _,_,_,h=>by simp[PyData.eqv] at h
 | .tuple _,.str _,_,_,h=>by simp[PyData.eqv] at h
 | .tuple _,.list _,_,_,h=>by simp[PyData.eqv] at h
theorem wQ:∀ xs ys:List PyData,pK xs=true->pK ys=true->PyData.eqvAll xs ys=true->xs=ys
 | [],[],_,_,_=>rfl
 | [],_::_,_,_,h=>by simp[PyData.eqvAll] at h
 | _::_,[],_,_,h=>by simp[PyData.eqvAll] at h
 | x::xs,y::ys,h1,h2,h=>by
  have h1':(nbD x && pK xs)=true:=h1
  have h2':(nbD y && pK ys)=true:=h2
  have h':(x.eqv y && PyData.eqvAll xs ys)=true:=h
  rw[Bool.and_eq_true] at h1' h2' h'
  rw[aGK x y h1'.1 h2'.1 h'.1,wQ xs ys h1'.2 h2'.2 h'.2]
end
theorem aGL{d:PyData}(h:SeqAt.shaped d=true):d.canLay0=true:=by
 have h':(d.canLay0 && decide (d.depth<=64))=true:=h
 rw[Bool.and_eq_true] at h'
 exact h'.1
theorem aGM{x y:PyData}(hx:nbD x=true)(hy:nbD y=true)(l:SeqAt.shaped x=true):x.eqv y=decide (x=y):=by
 by_cases h:x=y
 ·subst h;rw[aBI x (aGL l),decide_eq_true rfl]
 ·rw[decide_eq_false h]
  cases q:x.eqv y with
  | false=>rfl
  | true=>exact absurd (aGK x y hx hy q) h
structure Cp(d:PyData):Prop where
 nb:nbD d=true
 sh:SeqAt.shaped d=true
theorem aGN{x y:PyData}(hx:Cp x)(hy:Cp y):dEq x y=.ok (.bool (decide (x=y))):=by rw[oK hx.sh hy.sh,aGM hx.nb hy.nb hx.sh]
theorem aNQ{x:PyData}(h:SeqAt.shaped x=true):dEq x x=.ok (.bool true):=by rw[oK h h,aBI x (aGL h)]
end Mc
namespace Fl
open PySem L2 PyProof.Rows
@[simp] theorem aRG(i:Nat)(ρ:Sg):vO i ρ=match ρ[i]? with|some (some (.o e))=>.ok (.o e)|_=>.bad:=id rfl
@[simp] theorem wR(cn:Str)(fs:List Str)(f:Sg->R (List PyData))(ρ:Sg):wJ cn fs f ρ=(f ρ).bind fun xs=>if xs.length=fs.length then .ok (.o ⟨cn,fs.zip xs⟩) else .bad:=id rfl
@[simp] theorem aGO(f:Sg->R A)(m:Str)(tb:List (Str×(List A->R A)))(ρ:Sg):vMt f m tb ρ=(f ρ).bind fun a=>match a with
 | .o e=>if (e.fs.lookup m).isNone=true then (match tb.lookup e.c with|some G=>G [.o e]|none=>.bad) else .bad
 | _=>.bad:=id rfl
@[simp] theorem aRA(i:Nat)(cs:List Str)(g:Str)(ρ:Sg):eOF i cs g ρ=match ρ[i]? with
 | some (some (.o e))=>if cs.contains e.c=true then (match e.fs.lookup g with|some d=>.ok d|none=>.bad) else .bad
 | _=>.bad:=id rfl
@[simp] theorem aC2(f g:Sg->R PyData)(ρ:Sg):aED f g ρ=(f ρ).bind fun x=>if isL x=true then (g ρ).bind fun y=>q9 x y else .bad:=id rfl
@[simp] theorem aJO(xs:List PyData):isL (.list xs)=true:=id rfl
@[simp] theorem aQQ(g g' g'':PyData->PyData->R PyData)(fa fb fc fd:Sg->R PyData)(ρ:Sg):aEF g g' g'' fa fb fc fd ρ=(fa ρ).bind fun x=>(fb ρ).bind fun y=>(g x y).bind fun z=>(asB z).bind fun k=>if k=true then (fc ρ).bind fun w=>(g' y w).bind fun z=>(asB z).bind fun k=>if k=true then (fd ρ).bind fun u=>g'' w u else .ok (.bool false) else .ok (.bool false):=id rfl
@[simp] theorem aIL(a b:Bool):dIsntB (.bool a) (.bool b)=.ok (.bool (a != b)):=id rfl
@[simp] theorem aRB(a b:Bool):aQC (.bool a) (.bool b)=.ok (.bool (a == b)):=id rfl
@[simp] theorem aIM(f:Sg->R (List PyData))(g:Sg->R PyData)(ρ:Sg):y4 f g ρ=(f ρ).bind fun xs=>(g ρ).bind fun y=>uU xs y:=id rfl
@[simp] theorem aIN(i:Nat)(fi1 fi2:Sg->R (List PyData))(fs:PyData->Sg->Option Sg)(fk fe:Sg->R PyData)(ρ:Sg):aEE i fi1 fi2 fs fk fe ρ=(fi1 ρ).bind fun xs=>if i < ρ.length/\jQ (ρ.set i none)=true then (fi2 (ρ.set i none)).bind fun ys=>(nS fs fk fe ys (List.replicate xs.length []) (ρ.set i none)).bind fun r=>.ok (.nx (r.2.set i (some (.d (.list (r.1.map PyData.list)))))) else .bad:=id rfl
theorem aBJ{n:Nat}{i:Int}(h0:0<=i)(h1:i < n):ixN n i=some i.toNat:=by unfold ixN;rw[if_pos h0,if_pos h1]
end Fl
namespace Mc
open PySem L2 PyProof.Rows Fl
structure PathOk(rs:List Rw)(z:List Nat)(ps:List (Int×Int))(s:Int×Int):Prop where
 nd:ps.Nodup
 val:∀ x∈ps++[s],fV rs z x
 st0:(ps++[s])[0]? = some (0,0)
 step:∀ (k:Nat) a b,(ps++[s])[k]? = some a->(ps++[s])[k+1]? = some b->cP rs z a=some b
 fin:(s∉ps/\cP rs z s=none)\/(s∈ps/\∃ s',cP rs z s=some s')
 few:ps.length<=j9 rs z
theorem aIO{rs:List Rw}{sg:Nat}{z:List Nat}(M:Mach rs sg)(S:c7 sg z):∀ (k:Nat) (ps:List (Int×Int)) (s:Int×Int),Way rs z ps s k->(ps++[s])[0]? = some (0,0)->(∀ (k:Nat) a b,(ps++[s])[k]? = some a->(ps++[s])[k+1]? = some b->cP rs z a=some b)->∃ ps' s',eK rs z=ps'++[s']/\PathOk rs z ps' s':=by
 have hin:∀ (k:Nat) (ps:List (Int×Int)) (s:Int×Int),Way rs z ps s k->(ps++[s])[0]? = some (0,0)->(∀ (k:Nat) a b,(ps++[s])[k]? = some a->(ps++[s])[k+1]? = some b->cP rs z a=some b)->s∈ps->∃ ps' s',eK rs z=ps'++[s']/\PathOk rs z ps' s':=by
  intro k ps s W h0 h1 hs
  refine ⟨ps,s,(W.stop hs).symm,W.nd,W.val,h0,h1,.inr ⟨hs,?_⟩,by have:=W.num;omega⟩
  obtain ⟨j,hj⟩:=List.getElem?_of_mem hs
  have hjl:j < ps.length:=(List.getElem?_eq_some_iff.mp hj).1
  have e1:(ps++[s])[j]? = some s:=by rw[List.getElem?_append_left hjl];exact hj
  have e2:∃ b,(ps++[s])[j+1]? = some b:=⟨_,List.getElem?_eq_getElem (by rw[List.length_append];simp;omega)⟩
  obtain ⟨b,e2⟩:=e2
  exact ⟨b,h1 j s b e1 e2⟩
 intro k
 induction k with
 | zero=>
  intro ps s W h0 h1
  by_cases hs:s∈ps
  ·exact hin 0 ps s W h0 h1 hs
  ·obtain ⟨j,hj⟩:=W.more hs;omega
 | succ k ih=>
  intro ps s W h0 h1
  by_cases hs:s∈ps
  ·exact hin _ ps s W h0 h1 hs
  ·cases e:cP rs z s with
   | none=>exact ⟨ps,s,(W.ends hs e).symm,W.nd,W.val,h0,h1,.inl ⟨hs,e⟩,by have:=W.num;omega⟩
   | some s'=>
    refine ih (ps++[s]) s' (W.next M S hs e) (by rw[List.getElem?_append_left (by simp)];exact h0) fun k a b e1 e2=>?_
    by_cases hk:k+1 < (ps++[s]).length
    ·rw[List.getElem?_append_left hk] at e2
     rw[List.getElem?_append_left (by omega)] at e1
     exact h1 k a b e1 e2
    ·have hk2:k+1 < (ps++[s]++[s']).length:=(List.getElem?_eq_some_iff.mp e2).1
     rw[List.length_append,List.length_append] at hk2
     rw[List.length_append] at hk
     simp only[List.length_cons,List.length_nil] at hk hk2
     have hkl:k=ps.length:=by omega
     subst hkl
     have z1:(ps++[s]++[s'])[ps.length]? = some s:=by rw[List.getElem?_append_left (by simp),List.getElem?_append_right (Nat.le_refl _)];simp
     have z2:(ps++[s]++[s'])[ps.length+1]? = some s':=by rw[List.getElem?_append_right (by simp)];simp
     rw[z1] at e1;rw[z2] at e2
     cases e1;cases e2
     exact e
theorem aLG{rs:List Rw}{sg:Nat}{z:List Nat}(M:Mach rs sg)(S:c7 sg z):∃ ps s,eK rs z=ps++[s]/\PathOk rs z ps s:=
 aIO M S (j9 rs z) [] (0,0) (Way.start M) rfl fun k a b e1 e2=>by
  have:=(List.getElem?_eq_some_iff.mp e2).1
  simp at this
section
variable{rs:List Rw}{sg:Nat}{z:Str}
theorem aEL(M:Mach rs sg)(S:c7 sg z.cps.toList){s:Int×Int}(V:fV rs z.cps.toList s):gX [.d (dL rs),.d (.str z),.d (prD s)]=.ok (.d (.tuple [(b6 rs z.cps.toList s).1.d,.int (b6 rs z.cps.toList s).2])):=by
 obtain ⟨p,q⟩:=s
 have hr:=aA5 V.2.2.1 V.2.2.2
 have hz:z.length<=16777216:=by rw[h8];have:=S.1;omega
 have hl:=qW hz
 rw[h8] at hl
 generalize hL:z.cps.toList=zl at *
 have p0:dIx (prD (p,q)) (.int 0)=.ok (.int p):=rfl
 have p1:dIx (prD (p,q)) (.int 1)=.ok (.int q):=rfl
 have r0:∀ r:Rw,dIx (dZ r) (.int 0)=.ok r.l.d:=fun r=>rfl
 have r1:∀ r:Rw,dIx (dZ r) (.int 1)=.ok (.tuple (r.c.map iE)):=fun r=>rfl
 have r2:∀ r:Rw,dIx (dZ r) (.int 2)=.ok r.r.d:=fun r=>rfl
 have hr:dIx (dL rs) (.int q)=.ok (dZ (dQ rs q)):=hr
 unfold gX qS
 by_cases h0:p=0
 ·subst h0
  have hc:b6 rs zl (0,q)=((dQ rs q).l,1):=by unfold b6;rw[if_pos rfl]
  rw[hc]
  simp[p0,p1,hr,r0,cY]
 ·by_cases h1:p=(zl.length:Int)+1
  ·have hc:b6 rs zl (p,q)=((dQ rs q).r,-1):=by unfold b6;rw[if_neg h0,if_pos h1]
   rw[hc]
   have h0':¬ ((zl.length:Int)+1=0):=by omega
   have e0:dEq (.int p) (.int 0)=.ok (.bool false):=by rw[cY,decide_eq_false h0]
   have e1:dEq (.int p) (.int ((zl.length:Int)+1))=.ok (.bool true):=by rw[cY,decide_eq_true h1]
   simp[p0,p1,hr,r2,e0,e1,hl]
  ·obtain ⟨c,a1,a2,a3⟩:=vZ S V h0 h1
   obtain ⟨cc,b1,b2,b3⟩:=oZ M S V h0 h1
   have v1:=V.1
   have v2:=V.2.1
   simp only at v1 v2 a1 a3 b1 b2
   have hc:b6 rs zl (p,q)=(.n cc.1,cc.2):=by unfold b6;rw[if_neg h0,if_neg h1];simp only[b2]
   rw[hc]
   have ix:dIx (.str z) (.int (p - 1))=.ok (.str ⟨#[c]⟩):=aD9 hz (kZ (by omega) (by rw[hL,<-a1];congr 1;omega))
   have id:=aCT (aA4 M.sg3 a2)
   have ic:dIx (.tuple ((dQ rs q).c.map iE)) (.int ((c - 97:Nat):Int))=.ok (iE cc):=sB (kR (by rw[List.getElem?_map,<-a3,b1];rfl))
   simp[p0,p1,hr,r1,cY,h0,hl,h1,ix,id,ic]
   rfl
theorem cat_w(M:Mach rs sg){zl:List Nat}{s:Int×Int}{x:Str}(V:fV rs zl s)(h:(b6 rs zl s).1=.w x):x="by"\/x="out":=by
 have hm:=List.mem_of_getElem? (nK V.2.2.1 V.2.2.2)
 have g:=(M.row _ hm).1
 unfold b6 at h
 split at h
 ·have h:(dQ rs s.2).l=.w x:=h
  have:=g.1;rw[h] at this;exact this
 ·split at h
  ·have h:(dQ rs s.2).r=.w x:=h
   have:=g.2.1;rw[h] at this;exact this
  ·cases h
noncomputable def ptT:Sg->R Bool:=(e1 asB (tK true 4 (eV 2)))
noncomputable def ptB:Sg->R Fw:=(aH (rZ 4 (eV 2) (eC (.bool true)))
 (aH (bB 5 (bA 3 gX (aB (vV 0) (aB (vV 1) (aB (vV 2) aO)))))
 (aH (sIf (e1 asB (e2 dIn (e2 dIx (rV 5) (eC (.int 0))) (eC (.tuple [.str "by",.str "out"])))) (sFz 3 (bN (vV 3))) sNx)
 (aH (bB 2 (vD (cO (aB (e2 bM (e2 dIx (rV 2) (eC (.int 0))) (e2 dIx (rV 5) (eC (.int 1)))) (aB (e2 dIx (rV 5) (eC (.int 0))) aO)))))
 (g8 3 (eV 2))))))
theorem aNR:aAW=(aH (yW (bA 2 iM (aB (vV 0) (aB (vV 1) aO)))) (aH (bB 2 (vD (eC (.tuple [.int 0,.int 0])))) (aH (eH 3 (eP (aB (eV 2) aO))) (aH (rY 4) (aH (cV ptT ptB) (sFz 3 (bN (vV 3)))))))):=id rfl
def ptρ(rs:List Rw)(z:Str)(ps:List (Int×Int))(s:Int×Int)(u:Option A):Sg:=[some (.d (dL rs)),some (.d (.str z)),some (.d (prD s)),some (.l (ps.map prD++[prD s])),some (.m (been prD ps)),u]
theorem aNS{ps:List (Int×Int)}{s:Int×Int}{u:Option A}(h:s∈ps):ptT (ptρ rs z ps s u)=.ok false:=by
 have h1:=gY j5 ps s
 have h2:=(tM iW).mpr h
 simp[ptT,ptρ,h1,h2]
theorem aC3{ps:List (Int×Int)}{s:Int×Int}{u:Option A}(h:s∉ps):ptT (ptρ rs z ps s u)=.ok true:=by
 have h1:=gY j5 ps s
 have h2:=qX iW h
 simp[ptT,ptρ,h1,h2]
theorem aLH(M:Mach rs sg)(S:c7 sg z.cps.toList){ps:List (Int×Int)}{s:Int×Int}{u:Option A}{x:Str}(V:fV rs z.cps.toList s)(h:s∉ps)(hp:ps.length<=2000000)(e:(b6 rs z.cps.toList s).1=.w x):ptB (ptρ rs z ps s u)=.ok (.rt (.d (.list ((ps++[s]).map prD)))):=by
 have h1:=gY j5 ps s
 have h3:=pD iW h
 have h4:(been prD ps).length<=16777216:=by rw[pE];omega
 have f:=aEL M S V
 rw[e] at f
 have hs:=aEC (cat_w M V e)
 simp[ptB,ptρ,h1,h3,h4,f,Tn.d,hs]
theorem aNT(M:Mach rs sg)(S:c7 sg z.cps.toList){ps:List (Int×Int)}{s:Int×Int}{u:Option A}{q:Int}(V:fV rs z.cps.toList s)(h:s∉ps)(hp:ps.length<=2000000)(e:(b6 rs z.cps.toList s).1=.n q) :
  ∃ u',ptB (ptρ rs z ps s u)=.ok (.nx (ptρ rs z (ps++[s]) (s.1+(b6 rs z.cps.toList s).2,q) u')):=by
 have h1:=gY j5 ps s
 have h3:=pD iW h
 have h4:(been prD ps).length<=16777216:=by rw[pE];omega
 have f:=aEL M S V
 rw[e] at f
 generalize (b6 rs z.cps.toList s).2=t at *
 have hs:=aEB q
 have h5:ps.length+1 < 16777216:=by omega
 have p0:dIx (prD s) (.int 0)=.ok (.int s.1):=rfl
 have p2:∀ i:Int,prD (i,q)=.tuple [.int i,.int q]:=fun i=>rfl
 exact ⟨some (.d (.tuple [.int q,.int t])),by simp[ptB,ptρ,h1,h3,h4,f,Tn.d,hs,p0,p2,h5]⟩
theorem aLI(M:Mach rs sg)(S:c7 sg z.cps.toList):∀ (k:Nat) (ps:List (Int×Int)) (s:Int×Int) (u:Option A),Way rs z.cps.toList ps s k->
  aH (cV ptT ptB) (sFz 3 (bN (vV 3))) (ptρ rs z ps s u)=.ok (.rt (.d (.list ((eK rs z.cps.toList).map prD)))):=by
 have hB:j9 rs z.cps.toList<=1002 * 1000:=Nat.mul_le_mul (by have:=S.1;omega) M.len2
 have hin:∀ (k:Nat) (ps:List (Int×Int)) (s:Int×Int) (u:Option A),Way rs z.cps.toList ps s k->s∈ps->aH (cV ptT ptB) (sFz 3 (bN (vV 3))) (ptρ rs z ps s u)=.ok (.rt (.d (.list ((eK rs z.cps.toList).map prD)))):=by
  intro k ps s u W hs
  rw[bR,xT (aNS hs),<-W.stop hs]
  simp[ptρ]
 intro k
 induction k with
 | zero=>
  intro ps s u W
  by_cases hs:s∈ps
  ·exact hin 0 ps s u W hs
  ·obtain ⟨j,hj⟩:=W.more hs;omega
 | succ k ih=>
  intro ps s u W
  by_cases hs:s∈ps
  ·exact hin _ ps s u W hs
  ·have hp:ps.length<=2000000:=by have:=W.num;omega
   cases hc:(b6 rs z.cps.toList s).1 with
   | w x=>
    have e:cP rs z.cps.toList s=none:=by unfold cP;rw[hc]
    rw[bR,xS (aC3 hs) (aLH M S W.here hs hp hc),<-W.ends hs e];rfl
   | n q=>
    have e:cP rs z.cps.toList s=some (s.1+(b6 rs z.cps.toList s).2,q):=by unfold cP;rw[hc]
    obtain ⟨u',hb⟩:=aNT M S (u:=u) W.here hs hp hc
    have:=ih (ps++[s]) _ u' (W.next M S hs e)
    rw[bR] at this ⊢
    rw[xR (aC3 hs) hb]
    exact this
theorem aLJ(M:Mach rs sg)(S:c7 sg z.cps.toList):mT [.d (dL rs),.d (.str z)]=.ok (.d (.list ((eK rs z.cps.toList).map prD))):=by
 have h:=aLI M S (j9 rs z.cps.toList) [] (0,0) none (Way.start M)
 have hc:=aIG M S
 have h:aH (cV ptT ptB) (sFz 3 (bN (vV 3))) [some (.d (dL rs)),some (.d (.str z)),some (.d (.tuple [.int 0,.int 0])),some (.l [.tuple [.int 0,.int 0]]),some (.m []),none]=.ok (.rt (.d (.list ((eK rs z.cps.toList).map prD)))):=h
 unfold mT
 rw[aNR]
 rw[bR] at h
 simp only[d0,bR,aIE,fP,gL,hc,aA2,fQ,iT,cF,gQ,b9,iG,cH,R.bind_ok,List.length_cons,List.length_nil,Nat.reduceAdd,Nat.reduceSub,Nat.reduceLeDiff,if_true,List.map_cons,List.map_nil,List.cons_append,List.nil_append,List.replicate,List.set_cons_zero,List.set_cons_succ,List.getElem?_cons_zero,List.getElem?_cons_succ,cT,eB,h]
end
end Mc
namespace Mc
open PySem L2 PyProof.Rows Fl
theorem j1(i:Nat)(f g:Sg->R PyData)(ρ:Sg):iC i f g ρ=(g ρ).bind fun x=>match ρ[i]? with
 | some (some (.l xs))=>(f ρ).bind fun k=>match k with
  | .int k=>match ixN xs.length k with
   | some j=>.ok (.nx (ρ.set i (some (.l (xs.set j x)))))
   | none=>.bad
  | _=>.bad
 | _=>.bad:=id rfl
def brd(a b:Int×Int):Nat:=(eQ a.1 b.1).toNat
def lW(xss:List (List PyData))(a b:Int×Int):List (List PyData):=xss.set (brd a b) (xss.getD (brd a b) []++[.int b.2])
def bdL:List (Int×Int)->List (List PyData)->List (List PyData)
 | a::b::t,xss=>bdL (b::t) (lW xss a b)
 | _,xss=>xss
def Adj(n:Nat)(l:List (Int×Int)):Prop:=∀ (k:Nat) a b,l[k]? = some a->l[k+1]? = some b->0<=eQ a.1 b.1/\eQ a.1 b.1 < n
theorem Adj.tail{n:Nat}{a:Int×Int}{l:List (Int×Int)}(h:Adj n (a::l)):Adj n l:=fun k x y e1 e2=>h (k+1) x y (by simpa using e1) (by simpa using e2)
theorem tW(xss:List (List PyData))(a b:Int×Int):(lW xss a b).length=xss.length:=by unfold lW;rw[List.length_set]
theorem wS:∀ (l:List (Int×Int)) (xss:List (List PyData)),(bdL l xss).length=xss.length
 | [],_=>rfl
 | [_],_=>rfl
 | a::b::t,xss=>by unfold bdL;rw[wS (b::t),tW]
def Few(m:Nat)(xss:List (List PyData)):Prop:=∀ r∈xss,r.length+m<=16777000
theorem aBK{m:Nat}{xss:List (List PyData)}(h:Few m xss)(j:Nat)(hm:m<=16777000):(xss.getD j []).length+m<=16777000:=by
 rw[List.getD_eq_getElem?_getD]
 cases e:xss[j]? with
 | none=>simpa using hm
 | some r=>exact h r (List.mem_of_getElem? e)
theorem tX{m:Nat}{xss:List (List PyData)}{a b:Int×Int}(h:Few (m+1) xss)(hm:m+1<=16777000):Few m (lW xss a b):=fun r hr=>by
 unfold lW at hr
 rcases List.mem_or_eq_of_mem_set hr with q|q
 ·have:=h r q;omega
 ·have:=aBK h (brd a b) hm
  rw[q,List.length_append,List.length_singleton];omega
section
variable{D0 D1:PyData}
theorem x6:∀ (l:List (Int×Int)) (xss:List (List PyData)) (u3 u4:Option A),Adj xss.length l->Few l.length xss->l.length<=16777000->
  ∃ u3' u4',nS (stT [(stN 3),(stN 4)]) (e2 (d2 eQ) (e2 dIx (rV 3) (eC (.int 0))) (e2 dIx (rV 4) (eC (.int 0)))) (e2 dIx (rV 4) (eC (.int 1))) ((l.zip (l.drop 1)).map fun p=>.tuple [prD p.1,prD p.2]) xss [some (.d D0),some (.d D1),none,u3,u4]=.ok (bdL l xss,[some (.d D0),some (.d D1),none,u3',u4'])
 | [],xss,u3,u4,_,_,_=>⟨u3,u4,rfl⟩
 | [a],xss,u3,u4,_,_,_=>⟨u3,u4,rfl⟩
 | a::b::t,xss,u3,u4,h,hf,hl=>by
  obtain ⟨h0,h1⟩:=h 0 a b rfl rfl
  obtain ⟨u3',u4',q⟩:=x6 (b::t) (lW xss a b) (some (.d (prD a))) (some (.d (prD b))) (by rw[tW];exact h.tail) (tX hf hl) (by simp at hl ⊢;omega)
  refine ⟨u3',u4',?_⟩
  have e:((a::b::t).zip ((a::b::t).drop 1)).map (fun p=>PyData.tuple [prD p.1,prD p.2])=.tuple [prD a,prD b]::(((b::t).zip ((b::t).drop 1)).map fun p=>PyData.tuple [prD p.1,prD p.2]):=rfl
  rw[e]
  unfold nS bdL
  have hg:=aBK hf (brd a b) hl
  have p0:∀ s:Int×Int,dIx (prD s) (.int 0)=.ok (.int s.1):=fun s=>rfl
  have p1:∀ s:Int×Int,dIx (prD s) (.int 1)=.ok (.int s.2):=fun s=>rfl
  have hd:∀ i j:Int,d2 eQ (.int i) (.int j)=.ok (.int (eQ i j)):=fun i j=>rfl
  have hx:=aBJ h0 h1
  have hno:jQ [some (A.d D0),some (.d D1),none,some (.d (prD a)),some (.d (prD b))]=true:=rfl
  simp only[aF5,aAY,kH,aCQ,Option.bind_some,List.set_cons_succ,List.set_cons_zero,fJ,R.bind_ok,hno,if_true,cB,bU,b9,List.getElem?_cons_succ,List.getElem?_cons_zero,p0,p1,hd,hx]
  have hb:brd a b=(eQ a.1 b.1).toNat:=rfl
  rw[<-hb,if_pos (by simp only[List.length_cons] at hg;omega)]
  exact q
end
theorem aGP(l:List (Int×Int)):(((l.map prD).zip ((l.map prD).drop 1)).map Fl.aD7)=(l.zip (l.drop 1)).map fun p=>PyData.tuple [prD p.1,prD p.2]:=by
 rw[<-List.map_drop,List.zip_map,List.map_map];rfl
theorem aQE(xs:List PyData)(h:xs≠[]):jA xs (some 1) none=xs.drop 1:=by
 have h1:1<=xs.length:=by cases xs with|nil=>exact absurd rfl h|cons _ _=>simp
 have e:HT.sIx xs.length 0 (some 1)=1:=by
  have:=HT.aJ4 xs.length 0 1
  rw[show ((1:Nat):Int)=1 from rfl] at this
  rw[this];omega
 unfold jA
 rw[HT.aG3,e,List.take_of_length_le (by rw[List.length_drop];omega)]
def fA(xss:List (List PyData)):PyData:=.tuple (xss.map PyData.tuple)
theorem aNU{z:Str}{l:List (Int×Int)}(hz:z.cps.toList.length<=1000)(hn:l≠[])(hl:l.length<=16000000)(ha:Adj (z.cps.toList.length+1) l) :
  gT [.d (.list (l.map prD)),.d (.str z)]=.ok (.d (fA (bdL l (List.replicate (z.cps.toList.length+1) [])))):=by
 have hlen:=qW (z:=z) (by rw[h8];omega)
 rw[h8] at hlen
 have hr:fF 0 ((z.cps.toList.length:Int)+1)=.ok ((List.range (z.cps.toList.length+1)).map fun i:Nat=>.int (i:Int)):=by
  have:=uT (n:=z.cps.toList.length+1) (by omega)
  rw[<-this];congr 1
 obtain ⟨u3,u4,q⟩:=x6 (D0:=.list (l.map prD)) (D1:=.str z) l (List.replicate (z.cps.toList.length+1) []) none none (by rw[List.length_replicate];exact ha) (fun r hr=>by rw[List.eq_of_mem_replicate hr];simp;omega) (by omega)
 have hzip:aAT (.list (l.map prD)) (.list ((l.map prD).drop 1))=.ok ((l.zip (l.drop 1)).map fun p=>PyData.tuple [prD p.1,prD p.2]):=by
  unfold aAT
  rw[mU (by rw[List.length_map];omega),R.bind_ok,mU (by rw[List.length_drop,List.length_map];omega),R.bind_ok,aGP]
 have hsl:dSl (.list (l.map prD)) (some 1) none=.ok (.list ((l.map prD).drop 1)):=by rw[aO6,aQE _ (by simpa using hn)]
 generalize hy:bdL l (List.replicate (z.cps.toList.length+1) [])=yss at *
 have hyl:yss.length=z.cps.toList.length+1:=by rw[<-hy,wS,List.length_replicate]
 have hit:eM (.list (yss.map PyData.list))=.ok (yss.map PyData.list):=mU (by rw[List.length_map,hyl];omega)
 have hc:compL (stN 0) mQ (e1 dTup (rV 0)) (mP [none] [some (.d (.list (l.map prD))),some (.d (.str z)),some (.d (.list (yss.map PyData.list))),u3,u4]) (yss.map PyData.list)=.ok (yss.map PyData.tuple):=pC fun x hx=>⟨_,rfl,rfl⟩
 unfold gT m6
 have hno:jQ [some (A.d (.list (l.map prD))),some (.d (.str z)),none,none,none]=true:=rfl
 have hrep:List.replicate 3 (none:Option A)=[none,none,none]:=rfl
 simp only[d0,bR,aIN,iV,cB,cG,bU,iG,b9,List.map_cons,List.map_nil,List.length_cons,List.length_nil,Nat.reduceAdd,Nat.reduceSub,hrep,List.cons_append,List.nil_append,List.getElem?_cons_succ,List.getElem?_cons_zero,hlen,R.bind_ok,f9,hr,List.set_cons_succ,List.set_cons_zero,hno,and_true,Nat.reduceLT,if_true,aAZ,aA1,aA0,hsl,hzip,List.length_map,List.length_range,q,fM,eB,y0,aAX,hit,hc,aND]
 rfl
theorem aIP{rs:List Rw}{sg:Nat}{z:List Nat}{a b:Int×Int}(M:Mach rs sg)(S:c7 sg z)(V:fV rs z a)(h:cP rs z a=some b):0<=eQ a.1 b.1/\eQ a.1 b.1 < ((z.length+1:Nat):Int):=by
 have W:=uH M S V h
 have hd:b.1=a.1+1\/b.1=a.1 - 1:=by
  unfold cP at h
  cases e:(b6 rs z a).1 with
  | w x=>rw[e] at h;cases h
  | n q=>
   rw[e] at h
   cases h
   have hs:(b6 rs z a).2=1\/(b6 rs z a).2 = -1:=by
    by_cases h0:a.1=0
    ·left;unfold b6;rw[if_pos h0]
    ·by_cases h1:a.1=(z.length:Int)+1
     ·right;unfold b6;rw[if_neg h0,if_pos h1]
     ·obtain ⟨cc,b1,b2,b3⟩:=oZ M S V h0 h1
      unfold b6
      rw[if_neg h0,if_neg h1]
      simp only[b2]
      exact b3.2.2
   rcases hs with hs|hs<;>rw[hs]
   ·left;rfl
   ·right;show a.1 + -1=a.1 - 1;omega
 obtain ⟨v1,v2,_,_⟩:=V
 obtain ⟨w1,w2,_,_⟩:=W
 unfold eQ
 split<;>omega
theorem PathOk.adj{rs:List Rw}{sg:Nat}{z:List Nat}{ps:List (Int×Int)}{s:Int×Int}(M:Mach rs sg)(S:c7 sg z)(P:PathOk rs z ps s):Adj (z.length+1) (ps++[s]):=fun k a b e1 e2=>
 aIP M S (P.val a (List.mem_of_getElem? e1)) (P.step k a b e1 e2)
theorem aC4{l:List (Int×Int)}{n:Nat}(hl:l.length<=16000000)(ha:Adj n l):∀ (m k:Nat) (xss:List (List PyData)) (u4:Option A) (u3:Option A),k+1+m=l.length->xss.length=n->Few (l.length - k) xss->
  ∃ u3' u4',i9 (stN 3) (aH (bB 4 (vD (e2 (d2 eQ) (e2 dIx (e2 dIx (rV 0) (e2 dSub (rV 3) (eC (.int 1)))) (eC (.int 0))) (e2 dIx (e2 dIx (rV 0) (rV 3)) (eC (.int 0))))))
   (iC 2 (rV 4) (e2 iY (e2 dIx (rV 2) (rV 4)) (cO (aB (e2 dIx (e2 dIx (rV 0) (rV 3)) (eC (.int 1))) aO))))) (hU ((k:Int)+1) m) [some (.d (.list (l.map prD))),some (.d (.int n)),some (.l (xss.map PyData.tuple)),u3,u4]=.ok (.nx [some (.d (.list (l.map prD))),some (.d (.int n)),some (.l ((bdL (l.drop k) xss).map PyData.tuple)),u3',u4'])
 | 0,k,xss,u4,u3,hk,hx,hf=>by
  have e:(l.drop k).length=1:=by rw[List.length_drop];omega
  obtain ⟨a,ea⟩:=List.length_eq_one_iff.mp e
  rw[ea]
  exact ⟨u3,u4,rfl⟩
 | m+1,k,xss,u4,u3,hk,hx,hf=>by
  have h1:k < l.length:=by omega
  have h2:k+1 < l.length:=by omega
  have ea:l[k]? = some l[k]:=List.getElem?_eq_getElem h1
  have eb:l[k+1]? = some l[k+1]:=List.getElem?_eq_getElem h2
  obtain ⟨a0,a1⟩:=ha k _ _ ea eb
  have hd:l.drop k=l[k]::l[k+1]::l.drop (k+2):=by rw[List.drop_eq_getElem_cons h1,List.drop_eq_getElem_cons h2]
  have hd1:l.drop (k+1)=l[k+1]::l.drop (k+2):=List.drop_eq_getElem_cons h2
  generalize l[k]=a at *
  generalize l[k+1]=b at *
  have hfw:Few (l.length - (k+1)+1) xss:=by rw[show l.length - (k+1)+1=l.length - k by omega];exact hf
  obtain ⟨u3',u4',q⟩:=aC4 hl ha m (k+1) (lW xss a b) (some (.d (.int (eQ a.1 b.1)))) (some (.d (.int ((k:Int)+1)))) (by omega) (by rw[tW];exact hx) (tX hfw (by omega))
  refine ⟨u3',u4',?_⟩
  have er:hU ((k:Int)+1) (m+1)=.int ((k:Int)+1)::hU (((k+1:Nat):Int)+1) m:=by
   unfold hU
   rw[List.range_succ_eq_map,List.map_cons,List.map_map]
   have e0:(k:Int)+1+((0:Nat):Int)=(k:Int)+1:=by omega
   rw[e0]
   refine congrArg (List.cons _) (List.map_congr_left fun i _=>?_)
   show PyData.int ((k:Int)+1+((i+1:Nat):Int))=PyData.int (((k+1:Nat):Int)+1+(i:Int))
   have e1:(k:Int)+1+((i+1:Nat):Int)=((k+1:Nat):Int)+1+(i:Int):=by omega
   rw[e1]
  have eL:(bdL (l.drop k) xss)=bdL (l.drop (k+1)) (lW xss a b):=by rw[hd,hd1];rfl
  rw[er,eL]
  have p0:∀ s:Int×Int,dIx (prD s) (.int 0)=.ok (.int s.1):=fun s=>rfl
  have p1:∀ s:Int×Int,dIx (prD s) (.int 1)=.ok (.int s.2):=fun s=>rfl
  have dd:∀ i j:Int,d2 eQ (.int i) (.int j)=.ok (.int (eQ i j)):=fun i j=>rfl
  have i1:dIx (.list (l.map prD)) (.int ((k:Int)+1))=.ok (prD b):=nR (kZ (by omega) (by rw[List.getElem?_map,show ((k:Int)+1).toNat=k+1 by omega,eb];rfl))
  have i0:dIx (.list (l.map prD)) (.int ((k:Int)+1 - 1))=.ok (prD a):=nR (kZ (by omega) (by rw[List.getElem?_map,show ((k:Int)+1 - 1).toNat=k by omega,ea];rfl))
  have hj:brd a b < xss.length:=by unfold brd;omega
  have ex:xss[brd a b]? = some xss[brd a b]:=List.getElem?_eq_getElem hj
  have hgd:xss.getD (brd a b) []=xss[brd a b]:=by rw[List.getD_eq_getElem?_getD,ex];rfl
  have i2:dIx (.list (xss.map PyData.tuple)) (.int (eQ a.1 b.1))=.ok (.tuple xss[brd a b]):=nR (kZ a0 (by rw[List.getElem?_map];show (xss[brd a b]?).map _=_;rw[ex];rfl))
  have hfe:=hf _ (List.getElem_mem hj)
  have ad:iY (.tuple xss[brd a b]) (.tuple [.int b.2])=.ok (.tuple (xss[brd a b]++[.int b.2])):=if_pos (by rw[dP];simp only[List.length_cons,List.length_nil];omega)
  have hix:ixN (xss.map PyData.tuple).length (eQ a.1 b.1)=some (brd a b):=by rw[List.length_map,hx];exact aBJ a0 a1
  have hset:(xss.map PyData.tuple).set (brd a b) (.tuple (xss[brd a b]++[.int b.2]))=(lW xss a b).map PyData.tuple:=by unfold lW;rw[hgd,List.map_set]
  unfold i9
  simp only[kH,List.set_cons_succ,List.set_cons_zero,fJ,R.bind_ok,bR,cT,eB,cB,bU,b9,List.getElem?_cons_succ,List.getElem?_cons_zero,qT,i0,i1,p0,p1,dd,j1,i2,gQ,cF,cH,List.length_cons,List.length_nil,Nat.reduceAdd,Nat.reduceLeDiff,if_true,ad,hix,hset]
  exact q
theorem aBL{α:Type}(x:α):∀ n:Nat,(List.replicate n [x]).flatten=List.replicate n x
 | 0=>rfl
 | n+1=>by rw[List.replicate_succ,List.flatten_cons,aBL x n];rfl
theorem aLK{l:List (Int×Int)}{n:Nat}(hn:n<=2000)(hl0:l≠[])(hl:l.length<=16000000)(ha:Adj n l) :
  iZ [.d (.list (l.map prD)),.d (.int n)]=.ok (.d (fA (bdL l (List.replicate n [])))):=by
 have h1:1<=l.length:=by cases l with|nil=>exact absurd rfl hl0|cons _ _=>simp
 obtain ⟨u3,u4,q⟩:=aC4 hl ha (l.length - 1) 0 (List.replicate n []) none none (by omega) (by rw[List.length_replicate]) (fun r hr=>by rw[List.eq_of_mem_replicate hr];simp;omega)
 rw[List.drop_zero] at q
 have hm:uU [PyData.tuple []] (.int (n:Int))=.ok ((List.replicate n ([]:List PyData)).map PyData.tuple):=by
  unfold uU
  dsimp only
  rw[if_pos ⟨by simp,by omega,by omega,by simp only[List.length_cons,List.length_nil];omega⟩]
  rw[show ((n:Int).toNat)=n by omega,aBL,List.map_replicate]
 have hr:fF 1 (l.length:Int)=.ok (hU ((0:Nat)+1:Int) (l.length - 1)):=by
  unfold fF
  rw[if_pos ⟨by omega,by omega,by omega,by omega,by omega⟩]
  have e1:((l.length:Int) - 1).toNat=l.length - 1:=by omega
  rw[e1];rfl
 have hrep:List.replicate 3 (none:Option A)=[none,none,none]:=rfl
 unfold iZ oO
 simp only[d0,bR,fQ,aIM,iT,cF,cH,gQ,R.bind_ok,List.length_nil,List.length_cons,Nat.reduceAdd,Nat.reduceSub,Nat.reduceLeDiff,Nat.zero_le,if_true,List.map_cons,List.map_nil,hrep,List.cons_append,List.nil_append,bU,iG,b9,List.getElem?_cons_succ,List.getElem?_cons_zero,hm,List.set_cons_succ,List.set_cons_zero,j4,uR,cG,gR,List.length_map,hr]
 rw[q]
 rfl
end Mc
namespace Mc
open PySem L2 PyProof.Rows Fl
noncomputable def hJ(rs:List Rw)(z:List Nat)(ps:List (Int×Int))(s:Int×Int):Er:=
 if eD rs z="by" then ⟨"LetBy",[("place",.int s.1),("room",.int s.2),("borders",fA (bdL (ps++[s]) (List.replicate (z.length+1) [])))]⟩
 else if eD rs z="out" then ⟨"ShutOut",[("place",.int s.1),("room",.int s.2),("borders",fA (bdL (ps++[s]) (List.replicate (z.length+1) [])))]⟩
 else ⟨"ForEver",[("place",.int s.1),("room",.int s.2),("first",.int (ps.idxOf s)),("again",.int ps.length)]⟩
inductive EndW(rs:List Rw)(z:List Nat)(ps:List (Int×Int))(s:Int×Int):Prop
 | b (h:eD rs z="by") (n:s∉ps) (e:cP rs z s=none) (c:(b6 rs z s).1=.w "by")
 | o (h:eD rs z="out") (n:s∉ps) (e:cP rs z s=none) (c:(b6 rs z s).1=.w "out")
 | e (h:eD rs z="ever") (n:s∈ps) (q:Int) (c:(b6 rs z s).1=.n q)
theorem aPA{rs:List Rw}{sg:Nat}{z:Str}(M:Mach rs sg)(S:c7 sg z.cps.toList):∃ ps s,eK rs z.cps.toList=ps++[s]/\PathOk rs z.cps.toList ps s/\EndW rs z.cps.toList ps s:=by
 obtain ⟨ps,s,e,P⟩:=aLG M S
 obtain ⟨_,ps',s',e',V,q⟩:=tP M S
 rw[e] at e'
 obtain ⟨rfl,h2⟩:=List.append_inj' e' rfl
 cases h2
 refine ⟨ps,s,e,P,?_⟩
 rcases q with ⟨q1,x,q2,q3⟩|⟨⟨s',q1⟩,q3⟩
 ·have hn:s∉ps:=by
   rcases P.fin with ⟨h,_⟩|⟨_,s',h⟩
   · exact h
   · rw [q1] at h; cases h
  have hw:eD rs z.cps.toList=x:=by unfold eD;rw[q3];rfl
  rcases cat_w M V q2 with rfl|rfl
  ·exact .b hw hn q1 q2
  ·exact .o hw hn q1 q2
 ·have hm:s∈ps:=by
   rcases P.fin with ⟨_,h⟩|⟨h,_⟩
   · rw [q1] at h; cases h
   · exact h
  have hw:eD rs z.cps.toList="ever":=by unfold eD;rw[q3];rfl
  cases hc:(b6 rs z.cps.toList s).1 with
  | w x=>unfold cP at q1;rw[hc] at q1;cases q1
  | n q=>exact .e hw hm q hc
theorem x8(l:List (Int×Int))(s:Int×Int):dIx (.list ((l++[s]).map prD)) (.int (-1))=.ok (prD s):=by
 rw[List.map_append,List.map_cons,List.map_nil];exact iP _ _
theorem pL{rs:List Rw}{sg:Nat}{z:List Nat}{ps:List (Int×Int)}{s:Int×Int}(M:Mach rs sg)(S:c7 sg z)(P:PathOk rs z ps s):ps.length<=1002000:=by
 have hB:j9 rs z<=1002 * 1000:=Nat.mul_le_mul (by have:=S.1;omega) M.len2
 have:=P.few
 omega
theorem aPB(s:Int×Int):Sh 1 (prD s):=qG fun y hy=>by
 rcases List.mem_cons.mp hy with q|q
 · rw [q]; exact uF _ _
 · rw [List.mem_singleton.mp q]; exact uF _ _
theorem vB{l:List (Int×Int)}:SeqAt.shaped (.list (l.map prD))=true:=Sh.shaped (n:=2) (sh_lst fun x hx=>by
 obtain ⟨s,_,rfl⟩:=List.mem_map.mp hx
 exact aPB s) (by decide)
theorem aJP(s:Int×Int):nbD (prD s)=true:=rfl
theorem aNV{a b:Int×Int}:prD a=prD b↔a=b:=⟨fun h=>iW _ _ h,fun h=>by rw[h]⟩
theorem aNW(a b:Int×Int):PyData.eqv (prD a) (prD b)=decide (a=b):=by
 rw[aGM (aJP a) (aJP b) (n9 a)]
 exact decide_eq_decide.mpr aNV
theorem wT(s:Int×Int):∀ (l t:List (Int×Int)),s∈l->((l++t).map prD).findIdx? (fun y=>PyData.eqv y (prD s))=some (l.idxOf s)
 | [],_,h=>by cases h
 | a::l,t,h=>by
  rw[List.cons_append,List.map_cons,List.findIdx?_cons,aNW]
  by_cases e:a=s
  ·subst e
   rw[decide_eq_true rfl,if_pos rfl,List.idxOf_cons_self]
  ·rw[decide_eq_false e,if_neg (by decide),wT s l t (by
    rcases List.mem_cons.mp h with z|z
    · exact absurd z.symm e
    · exact z), List.idxOf_cons, beq_false_of_ne e]
   rfl
section
variable{rs:List Rw}{sg:Nat}{z:Str}
theorem aC5(M:Mach rs sg)(S:c7 sg z.cps.toList){ps:List (Int×Int)}{s:Int×Int}(hp:eK rs z.cps.toList=ps++[s])(P:PathOk rs z.cps.toList ps s)(W:EndW rs z.cps.toList ps s):rB [.d (dL rs),.d (.str z)]=.ok (.o (hJ rs z.cps.toList ps s)):=by
 have f1:=aLJ M S
 rw[hp] at f1
 have hfew:=pL M S P
 have V:fV rs z.cps.toList s:=P.val s (by simp)
 have f2:=aEL M S V
 have f3:=aNU (z:=z) (l:=ps++[s]) S.1 (by simp) (by rw[List.length_append];simp;omega) (P.adj M S)
 have il:=x8 ps s
 have p0:dIx (prD s) (.int 0)=.ok (.int s.1):=rfl
 have p1:dIx (prD s) (.int 1)=.ok (.int s.2):=rfl
 have hrep:List.replicate 3 (none:Option A)=[none,none,none]:=rfl
 have t0:∀ (a:PyData) (i:Int),dIx (.tuple [a,.int i]) (.int 0)=.ok a:=fun a i=>rfl
 unfold rB aBC
 cases W with
 | b h n e c=>
  rw[c] at f2
  have q1:dEq (Tn.w "by").d (.str "by")=.ok (.bool true):=kJ (.inl rfl) (.inl rfl)
  have he:hJ rs z.cps.toList ps s=⟨"LetBy",[("place",.int s.1),("room",.int s.2),("borders",fA (bdL (ps++[s]) (List.replicate (z.cps.toList.length+1) [])))]⟩:=by unfold hJ;rw[if_pos h]
  simp only[d0,bR,cT,fP,cF,cH,gL,R.bind_ok,List.map_cons,List.map_nil,List.length_cons,List.length_nil,Nat.reduceAdd,Nat.reduceSub,hrep,List.cons_append,List.nil_append,List.getElem?_cons_zero,List.getElem?_cons_succ,if_true,f1,List.set_cons_zero,List.set_cons_succ,eB,cB,cG,bU,b9,qU,il,l7,f2,kG,t0,cW,q1,cX,fM,wR,p0,p1,f3,he]
  rfl
 | o h n e c=>
  rw[c] at f2
  have q1:dEq (Tn.w "out").d (.str "by")=.ok (.bool false):=kJ (.inr (.inl rfl)) (.inl rfl)
  have q2:dEq (Tn.w "out").d (.str "out")=.ok (.bool true):=kJ (.inr (.inl rfl)) (.inr (.inl rfl))
  have he:hJ rs z.cps.toList ps s=⟨"ShutOut",[("place",.int s.1),("room",.int s.2),("borders",fA (bdL (ps++[s]) (List.replicate (z.cps.toList.length+1) [])))]⟩:=by unfold hJ;rw[if_neg (by rw[h];decide),if_pos h]
  simp only[d0,bR,cT,fP,cF,cH,gL,R.bind_ok,List.map_cons,List.map_nil,List.length_cons,List.length_nil,Nat.reduceAdd,Nat.reduceSub,hrep,List.cons_append,List.nil_append,List.getElem?_cons_zero,List.getElem?_cons_succ,if_true,f1,List.set_cons_zero,List.set_cons_succ,eB,cB,cG,bU,b9,qU,il,l7,f2,kG,t0,cW,q1,q2,Bool.false_eq_true,if_false,f8,cX,fM,wR,p0,p1,f3,he]
  rfl
 | e h n q c=>
  rw[c] at f2
  have q1:dEq (Tn.n q).d (.str "by")=.ok (.bool false):=by show dEq (.int q) (.str "by")=_;rw[oK (iX q) (pF (.inl rfl))];rfl
  have q2:dEq (Tn.n q).d (.str "out")=.ok (.bool false):=by show dEq (.int q) (.str "out")=_;rw[oK (iX q) (pF (.inr (.inl rfl)))];rfl
  have he:hJ rs z.cps.toList ps s=⟨"ForEver",[("place",.int s.1),("room",.int s.2),("first",.int (ps.idxOf s)),("again",.int ps.length)]⟩:=by unfold hJ;rw[if_neg (by rw[h];decide),if_neg (by rw[h];decide)]
  have hx:q9 (.list ((ps++[s]).map prD)) (prD s)=.ok (.int (ps.idxOf s)):=by
   unfold q9
   dsimp only
   rw[if_pos ⟨n9 s,vB,by rw[List.length_map,List.length_append];simp;omega⟩,wT s ps [s] n]
  have hln:((ps.length+1:Nat):Int) - 1=ps.length:=by omega
  simp only[d0,bR,cT,fP,cF,cH,gL,R.bind_ok,List.map_cons,List.map_nil,List.length_cons,List.length_nil,Nat.reduceAdd,Nat.reduceSub,hrep,List.cons_append,List.nil_append,List.getElem?_cons_zero,List.getElem?_cons_succ,if_true,f1,List.set_cons_zero,List.set_cons_succ,eB,cB,cG,bU,b9,qU,il,l7,f2,kG,t0,cW,q1,q2,cX,Bool.false_eq_true,if_false,f8,fM,wR,p0,p1,aC2,aJO,hx,gR,List.length_map,List.length_append,qT,hln,he]
  rfl
end
end Mc
namespace Mc
open PySem L2 PyProof.Rows Fl
def itM(rs:List Rw)(z:List Nat):Nat->Option (Int×Int)
 | 0=>some (0,0)
 | n+1=>(itM rs z n).bind (cP rs z)
noncomputable def gW(rs:List Rw)(z:List Nat)(ps:List (Int×Int))(s:Int×Int):PyData:=
 if s∈ps then .tuple [.str "ever",.int s.1,.int s.2,.int (ps.idxOf s),.int ps.length]
 else .tuple [.str (eD rs z),fA (bdL (ps++[s]) (List.replicate (z.length+1) []))]
def aQF(ps:List (Int×Int))(s:Int×Int):Er:=⟨"ForEver",[("place",.int s.1),("room",.int s.2),("first",.int (ps.idxOf s)),("again",.int ps.length)]⟩
section
variable{rs:List Rw}{sg:Nat}{z:List Nat}{ps:List (Int×Int)}{s:Int×Int}
theorem aJQ(h:eD rs z="by"):hJ rs z ps s=⟨"LetBy",[("place",.int s.1),("room",.int s.2),("borders",fA (bdL (ps++[s]) (List.replicate (z.length+1) [])))]⟩:=by unfold hJ;rw[if_pos h]
theorem aJR(h:eD rs z="out"):hJ rs z ps s=⟨"ShutOut",[("place",.int s.1),("room",.int s.2),("borders",fA (bdL (ps++[s]) (List.replicate (z.length+1) [])))]⟩:=by unfold hJ;rw[if_neg (by rw[h];decide),if_pos h]
theorem aJS(h:eD rs z="ever"):hJ rs z ps s=aQF ps s:=by unfold hJ;rw[if_neg (by rw[h];decide),if_neg (by rw[h];decide)];rfl
theorem mt_paper(W:EndW rs z ps s){f:Sg->R A}{ρ:Sg}(h:f ρ=.ok (.o (hJ rs z ps s))):vMt f "paper" [("LetBy",hX),("ShutOut",gC),("ForEver",gE)] ρ=.ok (.d (gW rs z ps s)):=by
 rw[aGO,h]
 unfold gW
 cases W with
 | b w n e c=>rw[aJQ w,if_neg n,w];rfl
 | o w n e c=>rw[aJR w,if_neg n,w];rfl
 | e w n q c=>rw[aJS w,if_pos n];rfl
theorem mt_stops(W:EndW rs z ps s){f:Sg->R A}{ρ:Sg}(h:f ρ=.ok (.o (hJ rs z ps s))):vMt f "stops" [("LetBy",hV),("ShutOut",gB),("ForEver",gD)] ρ=.ok (.d (.bool (decide (s∉ps)))):=by
 rw[aGO,h]
 cases W with
 | b w n e c=>rw[aJQ w,decide_eq_true n];rfl
 | o w n e c=>rw[aJR w,decide_eq_true n];rfl
 | e w n q c=>rw[aJS w,decide_eq_false (by simpa using n)];rfl
def pM(r:List PyData):Prop:=∀ x∈r,∃ i:Int,x=.int i
theorem aGQ{xss:List (List PyData)}{a b:Int×Int}(h:∀ r∈xss,pM r):∀ r∈lW xss a b,pM r:=fun r hr=>by
 unfold lW at hr
 rcases List.mem_or_eq_of_mem_set hr with q|q
 ·exact h r q
 ·subst q
  intro x hx
  rcases List.mem_append.mp hx with y|y
  ·rw[List.getD_eq_getElem?_getD] at y
   cases e:xss[brd a b]? with
   | none=>rw[e] at y;simp at y
   | some r=>rw[e] at y;exact h r (List.mem_of_getElem? e) x y
  ·exact ⟨b.2,List.mem_singleton.mp y⟩
theorem tY:∀ (l:List (Int×Int)) (xss:List (List PyData)),(∀ r∈xss,pM r)->∀ r∈bdL l xss,pM r
 | [],_,h=>h
 | [_],_,h=>h
 | a::b::t,xss,h=>by unfold bdL;exact tY (b::t) _ (aGQ h)
theorem aBM{xss:List (List PyData)}(h:∀ r∈xss,pM r):nbD (fA xss)=true/\Sh 2 (fA xss):=by
 refine ⟨wO fun x hx=>?_,qG fun x hx=>?_⟩
 ·obtain ⟨r,hr,rfl⟩:=List.mem_map.mp hx
  exact wO fun y hy=>by obtain ⟨i,rfl⟩:=h r hr y hy;rfl
 ·obtain ⟨r,hr,rfl⟩:=List.mem_map.mp hx
  exact qG fun y hy=>by obtain ⟨i,rfl⟩:=h r hr y hy;exact uF _ _
theorem aPC(l:List (Int×Int))(n:Nat):nbD (fA (bdL l (List.replicate n [])))=true/\Sh 2 (fA (bdL l (List.replicate n []))):=
 aBM (tY l _ fun r hr=>by rw[List.eq_of_mem_replicate hr];intro x hx;cases hx)
theorem wU(W:EndW rs z ps s):eD rs z="by"\/eD rs z="out"\/eD rs z="ever":=by
 cases W with
 | b w n e c=>exact .inl w
 | o w n e c=>exact .inr (.inl w)
 | e w n q c=>exact .inr (.inr w)
theorem aNX{w:Str}(h:w="by"\/w="out"\/w="ever")(n:Nat):Sh n (.str w):=aMS n (by rcases h with rfl|rfl|rfl<;>decide +kernel)
theorem aEM{w:Str}(h:w="by"\/w="out"\/w="ever"){d:PyData}(hd:nbD d=true/\Sh 2 d):Cp (.tuple [.str w,d]):=by
 refine ⟨?_,Sh.shaped (n:=3) (qG fun x hx=>?_) (by decide)⟩
 ·show (true && (nbD d && true))=true
  rw[hd.1];rfl
 ·rcases List.mem_cons.mp hx with q|q
  · rw [q]; exact aNX h 2
  · rw [List.mem_singleton.mp q]; exact hd.2
theorem aPD(a b c d:Int):Cp (.tuple [.str "ever",.int a,.int b,.int c,.int d]):=
 ⟨rfl,Sh.shaped (n:=1) (qG fun x hx=>by
  simp only[List.mem_cons,List.not_mem_nil,or_false] at hx
  rcases hx with q|q|q|q|q<;>rw[q]
  · exact aNX (.inr (.inr rfl)) 0
  all_goals exact uF _ _) (by decide)⟩
theorem cp_pap(W:EndW rs z ps s):Cp (gW rs z ps s):=by
 unfold gW
 split
 · exact aPD _ _ _ _
 · exact aEM (wU W) (aPC _ _)
end
section
variable{rs:List Rw}{sg:Nat}{z:Str}{ps:List (Int×Int)}{s:Int×Int}
def AtN(rs:List Rw)(z:List Nat)(p r n:Int):Prop:=itM rs z n.toNat=some (p,r)
instance (rs:List Rw) (z:List Nat) (p r n:Int):Decidable (AtN rs z p r n):=inferInstanceAs (Decidable (_=_))
def aPE(rs:List Rw)(z:List Nat)(p r f a:Int):Prop:=(0<=f/\f < a/\a<=(rs.length:Int) * ((z.length:Int)+2))/\AtN rs z p r f/\AtN rs z p r a
instance (rs:List Rw) (z:List Nat) (p r f a:Int):Decidable (aPE rs z p r f a):=inferInstanceAs (Decidable (_/\_))
theorem aIQ(M:Mach rs sg)(S:c7 sg z.cps.toList)(hp:eK rs z.cps.toList=ps++[s])(P:PathOk rs z.cps.toList ps s)(W:EndW rs z.cps.toList ps s)(n:s∉ps){d:PyData}(hd:Cp d):gU [.d (dL rs),.d (.str z),.d d]=.ok (.d (.bool (decide (d=gW rs z.cps.toList ps s)))):=by
 have f1:=aC5 M S hp P W
 have m1:=fun (f:Sg->R A) (ρ:Sg)=>mt_paper W (f:=f) (ρ:=ρ)
 have m2:=fun (f:Sg->R A) (ρ:Sg)=>mt_stops W (f:=f) (ρ:=ρ)
 have k:=aGN hd (cp_pap W)
 have hrep:List.replicate 1 (none:Option A)=[none]:=rfl
 have hv:vO 3 [some (A.d (dL rs)),some (.d (.str z)),some (.d d),some (.o (hJ rs z.cps.toList ps s))]=.ok (.o (hJ rs z.cps.toList ps s)):=rfl
 unfold gU sC
 simp only[d0,bR,cT,fP,cF,cH,gL,List.map_cons,List.map_nil,List.length_cons,List.length_nil,Nat.reduceAdd,Nat.reduceSub,hrep,List.cons_append,List.nil_append,List.getElem?_cons_zero,List.getElem?_cons_succ,R.bind_ok,if_true,f1,List.set_cons_zero,List.set_cons_succ,cW,cG,l7,m2 _ _ hv,kG,cX,decide_eq_true n,fM,eB,cB,bU,m1 _ _ hv,k]
theorem aBN(M:Mach rs sg)(S:c7 sg z.cps.toList)(hp:eK rs z.cps.toList=ps++[s])(P:PathOk rs z.cps.toList ps s)(W:EndW rs z.cps.toList ps s)(n:s∈ps){w:Str}(hw:w="by"\/w="out")(t:List PyData):gU [.d (dL rs),.d (.str z),.d (.tuple (.str w::t))]=.ok (.d (.bool false)):=by
 have f1:=aC5 M S hp P W
 have m2:=fun (f:Sg->R A) (ρ:Sg)=>mt_stops W (f:=f) (ρ:=ρ)
 have k:dEq (.str w) (.str "ever")=.ok (.bool false):=by
  rw[kJ (by rcases hw with q|q<;>simp[q]) (.inr (.inr rfl)),decide_eq_false (by rcases hw with rfl|rfl<;>decide)]
 have hrep:List.replicate 1 (none:Option A)=[none]:=rfl
 have hv:vO 3 [some (A.d (dL rs)),some (.d (.str z)),some (.d (.tuple (.str w::t))),some (.o (hJ rs z.cps.toList ps s))]=.ok (.o (hJ rs z.cps.toList ps s)):=rfl
 unfold gU sC
 simp only[d0,bR,cT,fP,cF,cH,gL,List.map_cons,List.map_nil,List.length_cons,List.length_nil,Nat.reduceAdd,Nat.reduceSub,hrep,List.cons_append,List.nil_append,List.getElem?_cons_zero,List.getElem?_cons_succ,R.bind_ok,if_true,f1,List.set_cons_zero,List.set_cons_succ,cW,cG,l7,m2 _ _ hv,kG,cX,decide_eq_false (show ¬ s∉ps by simpa using n),Bool.false_eq_true,if_false,f8,fM,eB,aK1,cB,bU,b9,aF7,k]
end
end Mc
namespace Mc
open PySem L2 PyProof.Rows Fl
section
variable{rs:List Rw}{sg:Nat}{z:Str}{ps:List (Int×Int)}{s:Int×Int}
theorem vC(M:Mach rs sg)(S:c7 sg z.cps.toList)(hp:eK rs z.cps.toList=ps++[s]):dI [.d (dL rs),.d (.str z)]=.ok (.d (.list ((ps++[s]).map prD))):=by rw[<-hp];exact (tP M S).1
theorem aNY(M:Mach rs sg)(S:c7 sg z.cps.toList)(P:PathOk rs z.cps.toList ps s):iZ [.d (.list ((ps++[s]).map prD)),.d (.int ((z.cps.toList.length:Int)+1))]=.ok (.d (fA (bdL (ps++[s]) (List.replicate (z.cps.toList.length+1) [])))):=by
 have hfew:=pL M S P
 have h:=aLK (l:=ps++[s]) (n:=z.cps.toList.length+1) (by have:=S.1;omega) (by simp) (by rw[List.length_append];simp;omega) (P.adj M S)
 rw[show ((z.cps.toList.length+1:Nat):Int)=(z.cps.toList.length:Int)+1 by omega] at h
 exact h
theorem aBO(W:EndW rs z.cps.toList ps s):(decide (eD rs z.cps.toList="ever"))=decide (s∈ps):=by
 cases W with
 | b w n e c=>rw[w,decide_eq_false n];decide
 | o w n e c=>rw[w,decide_eq_false n];decide
 | e w n q c=>rw[w,decide_eq_true n];decide
end
end Mc
namespace Mc
open PySem L2 PyProof.Rows Fl
theorem aLL{ns:List Int}:∃ (rs:List Rw) (z:Str) (sg:Nat),mW [.d (fR ns)]=.ok (.d (.tuple [dL rs,.str z]))/\Mach rs sg/\c7 sg z.cps.toList:=by
 obtain ⟨v0,hv0⟩:=lQ ns 0
 obtain ⟨v1,hv1⟩:=lQ ns 1
 obtain ⟨v2,hv2⟩:=lQ ns 2
 have k5:∀ y:Int,dMod (.int y) (.int 5)=.ok (.int (y % 5)):=fun y=>cE (by decide)
 have k3:∀ y:Int,dMod (.int y) (.int 3)=.ok (.int (y % 3)):=fun y=>cE (by decide)
 have k4:∀ y:Int,dMod (.int y) (.int 4)=.ok (.int (y % 4)):=fun y=>cE (by decide)
 have d3:∀ y:Int,dDiv (.int y) (.int 3)=.ok (.int (y / 3)):=fun y=>eZ (by decide) (by decide)
 obtain ⟨n,hn,n1,n5⟩:∃ n:Nat,1+v0 % 5=(n:Int)/\1<=n/\n<=5:=⟨(1+v0 % 5).toNat,by omega,by omega,by omega⟩
 obtain ⟨sg,hs,s1,s3⟩:∃ sg:Nat,1+v1 % 3=(sg:Int)/\1<=sg/\sg<=3:=⟨(1+v1 % 3).toNat,by omega,by omega,by omega⟩
 obtain ⟨k,hk,kp,kl⟩:∃ k:Int,dIx (.list [.int 8,.int 8,.int 25,.int 57]) (.int (v1 / 3 % 4))=.ok (.int k)/\0 < k/\k<=57:=by
  have h1:=Int.emod_nonneg (v1 / 3) (show (4:Int)≠0 by decide)
  have h2:=Int.emod_lt_of_pos (v1 / 3) (show (0:Int) < 4 by decide)
  rcases (by omega:v1 / 3 % 4=0\/v1 / 3 % 4=1\/v1 / 3 % 4=2\/v1 / 3 % 4=3) with h|h|h|h<;>rw[h]
  · exact ⟨8, rfl, by decide, by decide⟩
  · exact ⟨8, rfl, by decide, by decide⟩
  · exact ⟨25, rfl, by decide, by decide⟩
  · exact ⟨57, rfl, by decide, by decide⟩
 have hm:dMod (.int v2) (.int k)=.ok (.int (v2 % k)):=cE kp
 obtain ⟨m,em,lm⟩:∃ m:Nat,v2 % k=(m:Int)/\m<=1000:=by
  have h1:=Int.emod_nonneg v2 (show k≠0 by omega)
  have h2:=Int.emod_lt_of_pos v2 kp
  exact ⟨(v2 % k).toNat,by omega,by omega⟩
 rw[em] at hm
 obtain ⟨rs,e1,M,_⟩:=aNL (ns:=ns) (at':=6) (n:=n) (sg:=sg) (by decide) n1 (by omega) s1 s3
 obtain ⟨z,e2,S,_⟩:=aK6 (ns:=ns) (at':=11) (m:=m) (sg:=sg) (by decide) lm s1 s3
 refine ⟨rs,z,sg,?_,M,S⟩
 unfold mW qY
 simp[hv0,hv1,hv2,k5,k3,k4,d3,hn,hs,hk,hm,e1,e2]
theorem aPF(b:Bool):gS [.d (.bool b),.d (.bool b)]=.ok (.d (.bool true)):=by
 have h:dEq (.bool b) (.bool b)=.ok (.bool true):=aNQ (by cases b<;>rfl)
 have t:jB "bool" (.bool b)=.ok (.bool true):=rfl
 unfold gS mX
 simp[h,t]
end Mc
namespace Mc
open PySem L2 PyProof.Rows Fl
@[simp] theorem vE(n:Nat)(fb:Sg->R Fw)(xs:List PyData)(as:List A):fnM n fb xs as=(fb (some (.l xs)::as.map some++List.replicate (n - (as.length+1)) none)).bind fun w=>match w with
 | .nx (some (.l xs')::_)=>.ok xs'
 | _=>.bad:=id rfl
@[simp] theorem rH(i n:Nat)(G:List A->R A)(fa:Sg->R (List A))(ρ:Sg):oP i n G fa ρ=match ρ[i]? with
 | some (some (.l xs))=>(fa ρ).bind fun as=>if as.length+1=n then (match G (.d (.list xs)::as) with | .ok a=>if pJ a=true then .ok a else .bad|_=>.bad) else .bad
 | _=>.bad:=id rfl
@[simp] theorem rJ(i n:Nat)(G:List PyData->List A->R (List PyData))(fa:Sg->R (List A))(ρ:Sg):kK i n G fa ρ=match ρ[i]? with
 | some (some (.l xs))=>(fa ρ).bind fun as=>if as.length+1=n then (match G xs as with | .ok xs'=>.ok (.nx (ρ.set i (some (.l xs'))))|_=>.bad) else .bad
 | _=>.bad:=id rfl
@[simp] theorem aC6(i:Nat)(f:Sg->R PyData)(x:PyData)(ρ:Sg):tT i f x ρ=match ρ[i]? with
 | some (some (.l xs))=>(f ρ).bind fun k=>match k with
  | .int k=>match ixN xs.length k with
   | some j=>.ok (ρ.set i (some (.l (xs.set j x))))
   | none=>.bad
  | _=>.bad
 | _=>.bad:=id rfl
@[simp] theorem aC7(i:Nat)(f:Sg->R PyData)(j:Nat)(g:Sg->R PyData)(e:Sg->R PyData)(ρ:Sg):aBD i f j g e ρ=(e ρ).bind fun w=>match w with
 | .tuple [x,y]=>(tT i f x ρ).bind fun ρ1=>(tT j g y ρ1).bind fun ρ2=>.ok (.nx ρ2)
 | _=>.bad:=id rfl
@[simp] theorem vF(i:Nat)(f:Sg->R PyData)(ρ:Sg):m4 i f ρ=match ρ[i]? with
 | some (some (.l xs))=>(f ρ).bind fun x=>match x with
  | .int k=>if 0<=k/\k < xs.length/\k < 2 ^ 63 then .ok (.nx (ρ.set i (some (.l (xs.eraseIdx k.toNat))))) else .bad
  | _=>.bad
 | _=>.bad:=id rfl
@[simp] theorem aBP(i:Nat)(f g:Sg->R PyData)(ρ:Sg):tQ i f g ρ=match ρ[i]? with
 | some (some (.l xs))=>(f ρ).bind fun x=>(g ρ).bind fun y=>match x with
  | .int k=>if 0<=k/\k < 2 ^ 63/\xs.length < 16777216 then .ok (.nx (ρ.set i (some (.l (xs.take (min k.toNat xs.length)++y::xs.drop (min k.toNat xs.length)))))) else .bad
  | _=>.bad
 | _=>.bad:=id rfl
theorem aEN:fS=mW:=id rfl
theorem x9:dU=iZ:=id rfl
def bQ(is:List Int):PyData:=.tuple (is.map .int)
theorem ixL{α:Type}(d:α->PyData){xs:List α}{j:Nat}(h:j < xs.length):dIx (.list (xs.map d)) (.int (j:Int))=.ok (d xs[j]):=nR (kR (by rw[List.getElem?_map,List.getElem?_eq_getElem h];rfl))
theorem nH{n j:Nat}(h:j < n):ixN n (j:Int)=some j:=by rw[aBJ (by omega) (by omega)];rfl
theorem aLM{r:List PyData}(h:pM r):∃ is:List Int,r=is.map .int:=by
 induction r with
 | nil=>exact ⟨[],rfl⟩
 | cons x t ih=>
  obtain ⟨i,rfl⟩:=h x List.mem_cons_self
  obtain ⟨is,e⟩:=ih fun y hy=>h y (List.mem_cons_of_mem _ hy)
  exact ⟨i::is,by rw[e];rfl⟩
theorem aIR{xss:List (List PyData)}(h:∀ r∈xss,pM r)(hf:Few 100 xss):∃ yss:List (List Int),xss.map PyData.tuple=yss.map bQ/\yss.length=xss.length/\∀ r∈yss,r.length<=16776900:=by
 induction xss with
 | nil=>exact ⟨[],rfl,rfl,fun r hr=>by cases hr⟩
 | cons x t ih=>
  obtain ⟨is,e⟩:=aLM (h x List.mem_cons_self)
  obtain ⟨yss,e2,e3,e4⟩:=ih (fun y hy=>h y (List.mem_cons_of_mem _ hy)) fun y hy=>hf y (List.mem_cons_of_mem _ hy)
  refine ⟨is::yss,?_,?_,?_⟩
  ·rw[List.map_cons,List.map_cons,e2,e];rfl
  ·rw[List.length_cons,List.length_cons,e3]
  ·intro r hr
   rcases List.mem_cons.mp hr with q|q
   ·have:=hf x List.mem_cons_self
    rw[e,List.length_map] at this
    rw[q];omega
   ·exact e4 r q
theorem aC8:∀ (l:List (Int×Int)) (m:Nat) (xss:List (List PyData)),Few (m+l.length) xss->m+l.length<=16777000->Few m (bdL l xss)
 | [],m,xss,h,_=>h
 | [_],m,xss,h,hm=>fun r hr=>by have:=h r hr;simp at this;omega
 | a::b::t,m,xss,h,hm=>by
  unfold bdL
  have h':Few (m+(b::t).length+1) xss:=h
  exact aC8 (b::t) m _ (tX h' hm) (by simp at hm ⊢;omega)
theorem cp_tups(yss:List (List Int)):nbD (.tuple (yss.map bQ))=true/\Sh 2 (.tuple (yss.map bQ)):=by
 have:=aBM (xss:=yss.map fun is=>is.map PyData.int) fun r hr=>by
  obtain ⟨is,_,rfl⟩:=List.mem_map.mp hr
  intro x hx
  obtain ⟨i,_,rfl⟩:=List.mem_map.mp hx
  exact ⟨i,rfl⟩
 unfold fA at this
 rw[List.map_map] at this
 exact this
noncomputable def tZ:Sg->R Fw:=(aH (bB 3 (vD (e2 dMod (e2 bM (rV 1) (rV 2)) (e1 dLen (rV 0)))))
 (sIf (e1 asB (e2 dGt (e1 dLen (e2 dIx (rV 0) (rV 3))) (eC (.int 0)))) (bN (vV 3)) sNx))
theorem aNZ:lV=(aH (jT (fB (e1 dLen (rV 0))) (stN 2) tZ) (bN (vD (eC .none)))):=id rfl
theorem aLN{yss:List (List Int)}(hy:yss≠[])(c:Int)(i:Nat)(u3:Option A):∃ j:Nat,j < yss.length/\(c+(i:Int)) % (yss.length:Int)=(j:Int)/\((∃ r,yss[j]? = some r/\r≠[]/\tZ [some (.d (.list (yss.map bQ))),some (.d (.int c)),some (.d (.int i)),u3]=.ok (.rt (.d (.int j))))\/(yss[j]? = some []/\tZ [some (.d (.list (yss.map bQ))),some (.d (.int c)),some (.d (.int i)),u3]=.ok (.nx [some (.d (.list (yss.map bQ))),some (.d (.int c)),some (.d (.int i)),some (.d (.int j))]))):=by
 have h1:1<=yss.length:=by cases yss with|nil=>exact absurd rfl hy|cons _ _=>simp
 have b1:=Int.emod_nonneg (c+(i:Int)) (show (yss.length:Int)≠0 by omega)
 have b2:=Int.emod_lt_of_pos (c+(i:Int)) (show 0 < (yss.length:Int) by omega)
 have hm:dMod (.int (c+(i:Int))) (.int (yss.length:Int))=.ok (.int ((c+(i:Int)) % (yss.length:Int))):=cE (by omega)
 obtain ⟨j,hj⟩:∃ j:Nat,(c+(i:Int)) % (yss.length:Int)=(j:Int):=⟨((c+(i:Int)) % (yss.length:Int)).toNat,by omega⟩
 have hjl:j < yss.length:=by omega
 rw[hj] at hm
 have ix:=ixL bQ hjl
 have hln:dLen (bQ yss[j])=.ok (.int yss[j].length):=by unfold bQ;rw[aF6,List.length_map]
 refine ⟨j,hjl,hj,?_⟩
 by_cases e:yss[j]=[]
 ·refine .inr ⟨by rw[List.getElem?_eq_getElem hjl,e],?_⟩
  have hz:decide ((0:Int) < (yss[j].length:Int))=false:=by rw[e];rfl
  simp only[tZ,bR,cT,eB,cB,cG,bU,b9,List.getElem?_cons_zero,List.getElem?_cons_succ,R.bind_ok,f9,gR,List.length_map,hm,List.set_cons_zero,List.set_cons_succ,cW,ix,hln,aJH,hz,cX,Bool.false_eq_true,if_false,f8]
 ·refine .inl ⟨yss[j],List.getElem?_eq_getElem hjl,e,?_⟩
  have hz:decide ((0:Int) < (yss[j].length:Int))=true:=decide_eq_true (by have:=List.length_pos_iff.mpr e;omega)
  simp only[tZ,bR,cT,eB,cB,cG,bU,b9,List.getElem?_cons_zero,List.getElem?_cons_succ,R.bind_ok,f9,gR,List.length_map,hm,List.set_cons_zero,List.set_cons_succ,cW,ix,hln,aJH,hz,cX,if_true,fM,gL]
theorem at_loop{yss:List (List Int)}(hy:yss≠[])(c:Int):∀ (is:List Nat) (u2 u3:Option A),(∃ (j:Nat) (r:List Int),yss[j]? = some r/\r≠[]/\i9 (stN 2) tZ (is.map fun i:Nat=>.int (i:Int)) [some (.d (.list (yss.map bQ))),some (.d (.int c)),u2,u3]=.ok (.rt (.d (.int j)))) \/
  ((∀ i∈is,∀ j:Nat,(c+(i:Int)) % (yss.length:Int)=(j:Int)->yss[j]? = some [])/\∃ u2' u3',i9 (stN 2) tZ (is.map fun i:Nat=>.int (i:Int)) [some (.d (.list (yss.map bQ))),some (.d (.int c)),u2,u3]=.ok (.nx [some (.d (.list (yss.map bQ))),some (.d (.int c)),u2',u3']))
 | [],u2,u3=>.inr ⟨fun i hi=>(nomatch hi),u2,u3,rfl⟩
 | i::t,u2,u3=>by
  obtain ⟨j,hjl,hj,h⟩:=aLN hy c i u3
  rw[List.map_cons]
  unfold i9
  rcases h with ⟨r,h1,h2,h3⟩|⟨h1,h3⟩
  ·refine .inl ⟨j,r,h1,h2,?_⟩
   simp only[kH,List.set_cons_zero,List.set_cons_succ,fJ,R.bind_ok,h3]
  ·rcases at_loop hy c t (some (.d (.int i))) (some (.d (.int j))) with ⟨j2,r,q1,q2,q3⟩|⟨q1,u2',u3',q3⟩
   ·refine .inl ⟨j2,r,q1,q2,?_⟩
    simp only[kH,List.set_cons_zero,List.set_cons_succ,fJ,R.bind_ok,h3]
    exact q3
   ·refine .inr ⟨fun k hk j' e=>?_,u2',u3',?_⟩
    ·rcases List.mem_cons.mp hk with z|z
     ·subst z
      rw[hj] at e
      obtain rfl:j=j':=by omega
      exact h1
     ·exact q1 k z j' e
    ·simp only[kH,List.set_cons_zero,List.set_cons_succ,fJ,R.bind_ok,h3]
     exact q3
theorem F_at{yss:List (List Int)}(hy:yss≠[])(hl:yss.length<=2000)(c:Int):(∃ (j:Nat) (r:List Int),yss[j]? = some r/\r≠[]/\dX [.d (.list (yss.map bQ)),.d (.int c)]=.ok (.d (.int j)))\/((∀ r∈yss,r=[])/\dX [.d (.list (yss.map bQ)),.d (.int c)]=.ok (.d .none)):=by
 have h1:1<=yss.length:=by cases yss with|nil=>exact absurd rfl hy|cons _ _=>simp
 have hr:=uT (n:=yss.length) (by omega)
 have hrep:List.replicate 2 (none:Option A)=[none,none]:=rfl
 unfold dX
 rw[aNZ]
 rcases at_loop hy c (List.range yss.length) none none with ⟨j,r,q1,q2,q3⟩|⟨q1,u2,u3,q3⟩
 ·refine .inl ⟨j,r,q1,q2,?_⟩
  simp only[d0,bR,j4,iV,cG,bU,List.map_cons,List.map_nil,List.length_cons,List.length_nil,Nat.reduceAdd,Nat.reduceSub,hrep,List.cons_append,List.nil_append,List.getElem?_cons_zero,List.getElem?_cons_succ,R.bind_ok,gR,List.length_map,hr,q3]
 ·refine .inr ⟨fun r hr'=>?_,?_⟩
  ·obtain ⟨k,hk⟩:=List.getElem?_of_mem hr'
   have hkl:=(List.getElem?_eq_some_iff.mp hk).1
   have b1:=Int.emod_nonneg ((k:Int) - c) (show (yss.length:Int)≠0 by omega)
   have b2:=Int.emod_lt_of_pos ((k:Int) - c) (show 0 < (yss.length:Int) by omega)
   have e:(c+((((k:Int) - c) % (yss.length:Int)).toNat:Int)) % (yss.length:Int)=(k:Int):=by
    rw[show (((((k:Int) - c) % (yss.length:Int)).toNat:Nat):Int)=((k:Int) - c) % (yss.length:Int) by omega,Int.add_emod_emod,show c+((k:Int) - c)=k by omega]
    exact Int.emod_eq_of_lt (by omega) (by omega)
   have:=q1 _ (List.mem_range.mpr (by omega)) k e
   rw[hk] at this
   exact Option.some.inj this
  ·simp only[d0,bR,j4,iV,cG,bU,List.map_cons,List.map_nil,List.length_cons,List.length_nil,Nat.reduceAdd,Nat.reduceSub,hrep,List.cons_append,List.nil_append,List.getElem?_cons_zero,List.getElem?_cons_succ,R.bind_ok,gR,List.length_map,hr,q3,fM,eB,b9]
end Mc
namespace Mc
open PySem L2 PyProof.Rows Fl
theorem wV(is:List Int):dTup (.list (is.map PyData.int))=.ok (bQ is):=id rfl
theorem wW(is:List Int):dLst (bQ is)=.ok (is.map PyData.int):=id rfl
theorem oV(yss:List (List Int))(k:Nat)(r:List Int):(yss.map bQ).set k (bQ r)=(yss.set k r).map bQ:=by rw[List.map_set]
theorem wX(is:List Int)(k:Nat)(r:Int):(is.map PyData.int).set k (.int r)=(is.set k r).map PyData.int:=by rw[List.map_set]
theorem m5(c:Int):dMod (.int c) (.int 5)=.ok (.int (c % 5)):=cE (by decide)
theorem q5(c:Int):dDiv (.int c) (.int 5)=.ok (.int (c / 5)):=eZ (by decide) (by decide)
theorem q64(c:Int):dDiv (.int c) (.int 64)=.ok (.int (c / 64)):=eZ (by decide) (by decide)
theorem q8(c:Int):dDiv (.int c) (.int 8)=.ok (.int (c / 8)):=eZ (by decide) (by decide)
theorem aJT(c:Int):dDiv (.int c) (.int 4096)=.ok (.int (c / 4096)):=eZ (by decide) (by decide)
theorem m3'(c:Int):dMod (.int c) (.int 3)=.ok (.int (c % 3)):=cE (by decide)
theorem m4'(c:Int):dMod (.int c) (.int 4)=.ok (.int (c % 4)):=cE (by decide)
theorem iA{a:Int}{n:Nat}(h:1<=n):∃ s:Nat,s < n/\dMod (.int a) (.int (n:Int))=.ok (.int (s:Int)):=by
 have b1:=Int.emod_nonneg a (show (n:Int)≠0 by omega)
 have b2:=Int.emod_lt_of_pos a (show 0 < (n:Int) by omega)
 exact ⟨(a % (n:Int)).toNat,by omega,by rw[cE (by omega),show ((a % (n:Int)).toNat:Int)=a % (n:Int) by omega]⟩
theorem rK{α β:Type}(f:α->β):∀ (l:List α) (j:Nat),(l.map f).eraseIdx j=(l.eraseIdx j).map f
 | [],_=>rfl
 | _::_,0=>rfl
 | a::t,j+1=>by
  show f a::(t.map f).eraseIdx j=f a::(t.eraseIdx j).map f
  rw[rK f t j]
noncomputable def ro0:Sg->R Fw:=(sIf (e1 asB (e2 dEq (e2 dMod (rV 2) (eC (.int 5))) (eC (.int 0)))) (iC 4 (rV 5) (e2 dMod (e2 bM (e2 bM (e2 dIx (rV 4) (rV 5)) (eC (.int 1))) (e2 dMod (e2 dDiv (rV 2) (eC (.int 64))) (eC (.int 3)))) (e2 bM (rV 3) (eC (.int 1))))) sNx)
noncomputable def ro1:Sg->R Fw:=(sIf (e1 asB (e2 dEq (e2 dMod (rV 2) (eC (.int 5))) (eC (.int 1)))) (m4 4 (eV 5)) sNx)
noncomputable def ro2:Sg->R Fw:=(sIf (e1 asB (e2 dEq (e2 dMod (rV 2) (eC (.int 5))) (eC (.int 2)))) (tQ 4 (eV 5) (e2 dIx (rV 4) (rV 5))) sNx)
noncomputable def ro3:Sg->R Fw:=(sIf (e1 asB (e2 dEq (e2 dMod (rV 2) (eC (.int 5))) (eC (.int 3)))) (iC 4 (rV 5) (e2 dIx (eL (eP (aB (e1 dNeg (eC (.int 1))) (aB (eV 3) (aB (e2 dSub (e2 dIx (rV 4) (rV 5)) (rV 3)) (aB (e2 dPow (eC (.int 10)) (eC (.int 30))) aO)))))) (e2 dMod (e2 dDiv (rV 2) (eC (.int 64))) (eC (.int 4))))) sNx)
noncomputable def ro4:Sg->R Fw:=(sIf (e1 asB (e2 dEq (e2 dMod (rV 2) (eC (.int 5))) (eC (.int 4)))) (eH 4 (eSl nSl (rV 4) oNo (oSo (rV 5)))) sNx)
theorem aIS:fU=(aH (eH 4 (e1 dLst (e2 dIx (rV 0) (rV 1))))
 (aH (bB 5 (vD (e2 dMod (e2 dDiv (rV 2) (eC (.int 5))) (e1 dLen (rV 4)))))
 (aH ro0 (aH ro1 (aH ro2 (aH ro3 (aH ro4
 (iC 0 (rV 1) (e1 dTup (rV 4)))))))))):=id rfl
def roρ(xs:List PyData)(k:Nat)(c:Int)(n:Nat)(s:Nat)(r:List Int):Sg:=[some (.l xs),some (.d (.int k)),some (.d (.int c)),some (.d (.int n)),some (.l (r.map PyData.int)),some (.d (.int s))]
section
variable{xs:List PyData}{k n s:Nat}{c:Int}{r:List Int}
theorem vG{t:Sg->R Fw}{j:Int}(h:c % 5≠j):(sIf (e1 asB (e2 dEq (e2 dMod (rV 2) (eC (.int 5))) (eC (.int j)))) t sNx) (roρ xs k c n s r)=.ok (.nx (roρ xs k c n s r)):=by
 simp only[roρ,cW,cG,cB,bU,b9,List.getElem?_cons_zero,List.getElem?_cons_succ,R.bind_ok,m5,cY,decide_eq_false h,cX,Bool.false_eq_true,if_false,f8]
theorem vH{t:Sg->R Fw}{j:Int}(h:c % 5=j):(sIf (e1 asB (e2 dEq (e2 dMod (rV 2) (eC (.int 5))) (eC (.int j)))) t sNx) (roρ xs k c n s r)=t (roρ xs k c n s r):=by
 simp only[roρ,cW,cG,cB,bU,b9,List.getElem?_cons_zero,List.getElem?_cons_succ,R.bind_ok,m5,cY,decide_eq_true h,cX,if_true]
theorem aN0(hs:s < r.length):∃ r',ro0 (roρ xs k c n s r)=.ok (.nx (roρ xs k c n s r'))/\(c % 5≠0->r'=r):=by
 by_cases h:c % 5=0
 ·refine ⟨r.set s ((r[s]+1+c / 64 % 3) % ((n:Int)+1)),?_,fun z=>absurd h z⟩
  have ixr:=ixL PyData.int hs
  have hxn:=nH (n:=(r.map PyData.int).length) (j:=s) (by rw[List.length_map];exact hs)
  have hmn:∀ y:Int,dMod (.int y) (.int ((n:Int)+1))=.ok (.int (y % ((n:Int)+1))):=fun y=>cE (by omega)
  unfold ro0
  rw[vH h]
  simp only[roρ,j1,cB,bU,b9,List.getElem?_cons_zero,List.getElem?_cons_succ,R.bind_ok,ixr,f9,q64,m3',hmn,hxn,List.set_cons_zero,List.set_cons_succ,wX]
 ·exact ⟨r,vG h,fun _=>rfl⟩
theorem aN1(hs:c % 5=1->s < r.length)(hl:c % 5=1->r.length<=16776900):∃ r',ro1 (roρ xs k c n s r)=.ok (.nx (roρ xs k c n s r'))/\(c % 5≠1->r'=r):=by
 by_cases h:c % 5=1
 ·have hs:=hs h
  have hl:=hl h
  refine ⟨r.eraseIdx s,?_,fun z=>absurd h z⟩
  unfold ro1
  rw[vH h]
  have he:∀ (l:List Int) (j:Nat),(l.map PyData.int).eraseIdx j=(l.eraseIdx j).map PyData.int:=fun l j=>rK PyData.int l j
  have hc:(0:Int)<=(s:Int)/\(s:Int) < ((r.map PyData.int).length:Int)/\(s:Int) < 2 ^ 63:=⟨by omega,by rw[List.length_map];omega,by omega⟩
  simp only[roρ,vF,iG,List.getElem?_cons_zero,List.getElem?_cons_succ,R.bind_ok]
  rw[if_pos hc]
  simp only[List.set_cons_zero,List.set_cons_succ,Int.toNat_natCast,he]
 ·exact ⟨r,vG h,fun _=>rfl⟩
theorem aN2(hs:c % 5=2->s < r.length)(hl:c % 5=2->r.length<=16776900):∃ r',ro2 (roρ xs k c n s r)=.ok (.nx (roρ xs k c n s r'))/\(c % 5≠2->r'=r):=by
 by_cases h:c % 5=2
 ·have hs:=hs h
  have hl:=hl h
  refine ⟨r.take (min s r.length)++r[s]::r.drop (min s r.length),?_,fun z=>absurd h z⟩
  have ixr:=ixL PyData.int hs
  unfold ro2
  rw[vH h]
  have hc:(0:Int)<=(s:Int)/\(s:Int) < 2 ^ 63/\(r.map PyData.int).length < 16777216:=⟨by omega,by omega,by rw[List.length_map];omega⟩
  simp only[roρ,aBP,iG,bU,cB,List.getElem?_cons_zero,List.getElem?_cons_succ,R.bind_ok,ixr]
  rw[if_pos hc]
  simp only[List.set_cons_zero,List.set_cons_succ,Int.toNat_natCast,List.length_map,List.map_append,List.map_cons,List.map_take,List.map_drop]
 ·exact ⟨r,vG h,fun _=>rfl⟩
theorem aN3(hs:c % 5=3->s < r.length):∃ r',ro3 (roρ xs k c n s r)=.ok (.nx (roρ xs k c n s r'))/\(c % 5≠3->r'=r):=by
 by_cases h:c % 5=3
 ·have hs:=hs h
  have ixr:=ixL PyData.int hs
  have hxn:=nH (n:=(r.map PyData.int).length) (j:=s) (by rw[List.length_map];exact hs)
  have hp30:dPow (.int 10) (.int 30)=.ok (.int (10 ^ 30)):=rfl
  obtain ⟨j,hj,hjm⟩:=iA (a:=c / 64) (n:=4) (by decide)
  have ix4:=ixL PyData.int (xs:=[-1,(n:Int),r[s] - (n:Int),10 ^ 30]) (j:=j) hj
  simp only[List.map_cons,List.map_nil] at ix4
  refine ⟨r.set s ([-1,(n:Int),r[s] - (n:Int),10 ^ 30][j]'hj),?_,fun z=>absurd h z⟩
  unfold ro3
  rw[vH h]
  have hjm:dMod (.int (c / 64)) (.int 4)=.ok (.int (j:Int)):=hjm
  simp only[roρ,j1,cB,cG,bU,iG,b9,y0,iT,cF,cH,List.getElem?_cons_zero,List.getElem?_cons_succ,R.bind_ok,qU,ixr,qT,hp30,List.length_cons,List.length_nil,Nat.reduceAdd,Nat.reduceLeDiff,if_true,q64,hjm,ix4,hxn,List.set_cons_zero,List.set_cons_succ,wX]
 ·exact ⟨r,vG h,fun _=>rfl⟩
theorem aN4:∃ r',ro4 (roρ xs k c n s r)=.ok (.nx (roρ xs k c n s r')):=by
 by_cases h:c % 5=4
 ·refine ⟨jA r none (some (s:Int)),?_⟩
  unfold ro4
  rw[vH h]
  have hc:nSl (.list (r.map PyData.int)) none (some (s:Int))=.ok ((jA r none (some (s:Int))).map PyData.int):=by
   show R.ok (jA (r.map PyData.int) none (some (s:Int)))=_
   unfold jA
   rw[List.length_map,<-List.map_drop,<-List.map_take]
  simp only[roρ,fQ,aAZ,aA0,aA1,bU,List.getElem?_cons_zero,List.getElem?_cons_succ,R.bind_ok,hc,List.set_cons_zero,List.set_cons_succ]
 ·exact ⟨r,vG h⟩
end
theorem aLO{yss:List (List Int)}{k:Nat}{r:List Int}(hk:yss[k]? = some r)(hr:r≠[])(hl:r.length<=16776900)(c:Int)(n:Nat):∃ zss:List (List Int),dB (yss.map bQ) [.d (.int k),.d (.int c),.d (.int n)]=.ok (zss.map bQ):=by
 obtain ⟨hkl,hkr⟩:=List.getElem?_eq_some_iff.mp hk
 have r1:1<=r.length:=List.length_pos_iff.mpr hr
 obtain ⟨s,hs,hsm⟩:=iA (a:=c / 5) r1
 have ix0:=ixL bQ hkl
 rw[hkr] at ix0
 have hxk:=nH (n:=(yss.map bQ).length) (j:=k) (by rw[List.length_map];exact hkl)
 have hrep:List.replicate 2 (none:Option A)=[none,none]:=rfl
 obtain ⟨a0,p0,w0⟩:=aN0 (xs:=yss.map bQ) (k:=k) (n:=n) (c:=c) hs
 obtain ⟨a1,p1,w1⟩:=aN1 (xs:=yss.map bQ) (k:=k) (n:=n) (c:=c) (s:=s) (r:=a0) (fun h=>by rw[w0 (by omega)];exact hs) (fun h=>by rw[w0 (by omega)];exact hl)
 obtain ⟨a2,p2,w2⟩:=aN2 (xs:=yss.map bQ) (k:=k) (n:=n) (c:=c) (s:=s) (r:=a1) (fun h=>by rw[w1 (by omega),w0 (by omega)];exact hs) (fun h=>by rw[w1 (by omega),w0 (by omega)];exact hl)
 obtain ⟨a3,p3,w3⟩:=aN3 (xs:=yss.map bQ) (k:=k) (n:=n) (c:=c) (s:=s) (r:=a2) (fun h=>by rw[w2 (by omega),w1 (by omega),w0 (by omega)];exact hs)
 obtain ⟨a4,p4⟩:=aN4 (xs:=yss.map bQ) (k:=k) (n:=n) (c:=c) (s:=s) (r:=a3)
 refine ⟨yss.set k a4,?_⟩
 unfold dB
 rw[aIS]
 simp only[vE,bR,fQ,cT,eB,cB,cG,bU,b9,List.map_cons,List.map_nil,List.length_cons,List.length_nil,Nat.reduceAdd,Nat.reduceSub,hrep,List.cons_append,List.nil_append,List.getElem?_cons_zero,List.getElem?_cons_succ,R.bind_ok,ix0,wW,List.set_cons_zero,List.set_cons_succ,q5,gR,List.length_map,hsm]
 rw[show ([some (.l (yss.map bQ)),some (.d (.int k)),some (.d (.int c)),some (.d (.int n)),some (.l (r.map PyData.int)),some (.d (.int s))]:Sg)=roρ (yss.map bQ) k c n s r from rfl,p0,R.bind_ok]
 simp only
 rw[p1,R.bind_ok]
 simp only
 rw[p2,R.bind_ok]
 simp only
 rw[p3,R.bind_ok]
 simp only
 rw[p4,R.bind_ok]
 simp only[roρ,j1,cG,bU,List.getElem?_cons_zero,List.getElem?_cons_succ,R.bind_ok,wV,hxk,List.set_cons_zero,oV]
noncomputable def tw0:Sg->R Fw:=(sIf (e1 asB (e2 dEq (rV 5) (eC (.int 0)))) (aBD 0 (rV 1) 0 (rV 4) (cO (aB (e2 dIx (rV 0) (rV 4)) (aB (e2 dIx (rV 0) (rV 1)) aO)))) sNx)
noncomputable def tw1:Sg->R Fw:=(sIf (e1 asB (e2 dEq (rV 5) (eC (.int 1)))) (m4 0 (eV 1)) sNx)
noncomputable def tw2:Sg->R Fw:=(sIf (e1 asB (e2 dEq (rV 5) (eC (.int 2)))) (tQ 0 (eV 4) (e2 dIx (rV 0) (rV 1))) sNx)
noncomputable def tw3:Sg->R Fw:=(sIf (e1 asB (e2 dEq (rV 5) (eC (.int 3)))) (aH (bB 6 (vD (e2 (d2 eQ) (e2 bM (rV 1) (eC (.int 1))) (e2 dSub (e1 dLen (rV 0)) (eC (.int 1))))))
 (aH (iC 0 (rV 1) (e2 iY (e2 dIx (rV 0) (rV 1)) (cO (aB (e2 dMod (e2 dDiv (rV 2) (eC (.int 8))) (rV 3)) aO))))
 (iC 0 (rV 6) (e2 iY (e2 dIx (rV 0) (rV 6)) (cO (aB (e2 dMod (e2 dDiv (rV 2) (eC (.int 64))) (rV 3)) aO)))))) sNx)
theorem aLP:fY=(aH (bB 4 (vD (e2 dMod (e2 bM (e2 bM (rV 1) (eC (.int 1))) (e2 dMod (e2 dDiv (rV 2) (eC (.int 8))) (e1 dLen (rV 0)))) (e1 dLen (rV 0)))))
 (aH (bB 5 (vD (e2 dMod (rV 2) (eC (.int 4)))))
 (aH tw0 (aH tw1 (aH tw2 tw3))))):=id rfl
def twρ(yss:List (List Int))(k:Nat)(c:Int)(n t:Nat)(d:Int):Sg:=[some (.l (yss.map bQ)),some (.d (.int k)),some (.d (.int c)),some (.d (.int n)),some (.d (.int t)),some (.d (.int d)),none]
section
variable{yss:List (List Int)}{k n t:Nat}{c d:Int}
theorem y6{f:Sg->R Fw}{j:Int}(h:d≠j):(sIf (e1 asB (e2 dEq (rV 5) (eC (.int j)))) f sNx) (twρ yss k c n t d)=.ok (.nx (twρ yss k c n t d)):=by
 simp only[twρ,cW,cG,cB,bU,b9,List.getElem?_cons_zero,List.getElem?_cons_succ,R.bind_ok,cY,decide_eq_false h,cX,Bool.false_eq_true,if_false,f8]
theorem y7{f:Sg->R Fw}{j:Int}(h:d=j):(sIf (e1 asB (e2 dEq (rV 5) (eC (.int j)))) f sNx) (twρ yss k c n t d)=f (twρ yss k c n t d):=by
 simp only[twρ,cW,cG,cB,bU,b9,List.getElem?_cons_zero,List.getElem?_cons_succ,R.bind_ok,cY,decide_eq_true h,cX,if_true]
theorem aN5(hk:k < yss.length)(ht:t < yss.length):∃ zss,tw0 (twρ yss k c n t d)=.ok (.nx (twρ zss k c n t d))/\(d≠0->zss=yss):=by
 by_cases h:d=0
 ·refine ⟨(yss.set k yss[t]).set t yss[k],?_,fun z=>absurd h z⟩
  have i1:=ixL bQ hk
  have i2:=ixL bQ ht
  have x1:=nH (n:=(yss.map bQ).length) (j:=k) (by rw[List.length_map];exact hk)
  have x2:=nH (n:=((yss.set k yss[t]).map bQ).length) (j:=t) (by rw[List.length_map,List.length_set];exact ht)
  unfold tw0
  rw[y7 h]
  simp only[twρ,aC7,gQ,cF,cH,cB,bU,List.getElem?_cons_zero,List.getElem?_cons_succ,R.bind_ok,i1,i2,List.length_cons,List.length_nil,Nat.reduceAdd,Nat.reduceLeDiff,if_true,aC6,x1,List.set_cons_zero,oV,x2]
 ·exact ⟨yss,y6 h,fun _=>rfl⟩
theorem aN6(hk:d=1->k < yss.length)(hl:d=1->yss.length<=2000):∃ zss,tw1 (twρ yss k c n t d)=.ok (.nx (twρ zss k c n t d))/\(d≠1->zss=yss):=by
 by_cases h:d=1
 ·have hk:=hk h
  have hl:=hl h
  refine ⟨yss.eraseIdx k,?_,fun z=>absurd h z⟩
  unfold tw1
  rw[y7 h]
  have hc:(0:Int)<=(k:Int)/\(k:Int) < ((yss.map bQ).length:Int)/\(k:Int) < 2 ^ 63:=⟨by omega,by rw[List.length_map];omega,by omega⟩
  simp only[twρ,vF,iG,List.getElem?_cons_zero,List.getElem?_cons_succ,R.bind_ok]
  rw[if_pos hc]
  simp only[List.set_cons_zero,Int.toNat_natCast,rK]
 ·exact ⟨yss,y6 h,fun _=>rfl⟩
theorem aN7(hk:d=2->k < yss.length)(ht:d=2->t < yss.length)(hl:d=2->yss.length<=2000):∃ zss,tw2 (twρ yss k c n t d)=.ok (.nx (twρ zss k c n t d))/\(d≠2->zss=yss):=by
 by_cases h:d=2
 ·have hk:=hk h
  have ht:=ht h
  have hl:=hl h
  refine ⟨yss.take (min t yss.length)++yss[k]::yss.drop (min t yss.length),?_,fun z=>absurd h z⟩
  have i1:=ixL bQ hk
  unfold tw2
  rw[y7 h]
  have hc:(0:Int)<=(t:Int)/\(t:Int) < 2 ^ 63/\(yss.map bQ).length < 16777216:=⟨by omega,by omega,by rw[List.length_map];omega⟩
  simp only[twρ,aBP,iG,bU,cB,List.getElem?_cons_zero,List.getElem?_cons_succ,R.bind_ok,i1]
  rw[if_pos hc]
  simp only[List.set_cons_zero,Int.toNat_natCast,List.length_map,List.map_append,List.map_cons,List.map_take,List.map_drop]
 ·exact ⟨yss,y6 h,fun _=>rfl⟩
theorem aC9{is:List Int}{j:Int}(h:is.length<=16776990):iY (bQ is) (.tuple [.int j])=.ok (bQ (is++[j])):=by
 unfold bQ
 rw[List.map_append]
 exact if_pos (by rw[dP,List.length_map];simp only[List.length_cons,List.length_nil];omega)
theorem aN8(hk:d=3->k < yss.length)(hr:d=3->∀ r∈yss,r.length<=16776900)(hn:1<=n):∃ (zss:List (List Int)) (ρ:Sg),tw3 (twρ yss k c n t d)=.ok (.nx (some (.l (zss.map bQ))::ρ)):=by
 by_cases h:d=3
 ·have hk:=hk h
  have hr:=hr h
  obtain ⟨j,hj,hjk⟩:∃ j:Nat,j < yss.length/\eQ ((k:Int)+1) ((yss.length:Int) - 1)=(j:Int):=by
   unfold eQ
   refine ⟨(if (yss.length:Int) - 1 < (k:Int)+1 then (yss.length:Int) - 1 else (k:Int)+1).toNat,?_,?_⟩<;>split<;>omega
  obtain ⟨a,_,ha⟩:=iA (a:=c / 8) hn
  obtain ⟨b,_,hb⟩:=iA (a:=c / 64) hn
  have i1:=ixL bQ hk
  have hl1:yss[k].length<=16776900:=hr _ (List.getElem_mem hk)
  have a1:=aC9 (is:=yss[k]) (j:=(a:Int)) (by omega)
  have hj2:j < (yss.set k (yss[k]++[(a:Int)])).length:=by rw[List.length_set];exact hj
  have i2:=ixL bQ hj2
  have hl2:(yss.set k (yss[k]++[(a:Int)]))[j].length<=16776901:=by
   rcases List.mem_or_eq_of_mem_set (List.getElem_mem hj2) with q|q
   · have := hr _ q; omega
   · rw [q, List.length_append, List.length_singleton]; omega
  have a2:=aC9 (is:=(yss.set k (yss[k]++[(a:Int)]))[j]) (j:=(b:Int)) (by omega)
  have x1:=nH hk
  have x2:=nH hj
  have dm:∀ i j:Int,d2 eQ (.int i) (.int j)=.ok (.int (eQ i j)):=fun i j=>rfl
  refine ⟨(yss.set k (yss[k]++[(a:Int)])).set j ((yss.set k (yss[k]++[(a:Int)]))[j]++[(b:Int)]),[some (.d (.int k)),some (.d (.int c)),some (.d (.int n)),some (.d (.int t)),some (.d (.int d)),some (.d (.int j))],?_⟩
  unfold tw3
  rw[y7 h]
  simp only[twρ,bR,cT,eB,cB,cG,bU,b9,List.getElem?_cons_zero,List.getElem?_cons_succ,R.bind_ok,f9,gR,List.length_map,qT,dm,hjk,List.set_cons_zero,List.set_cons_succ,j1,i1,gQ,cF,cH,q8,q64,ha,hb,List.length_cons,List.length_nil,Nat.reduceAdd,Nat.reduceLeDiff,if_true,a1,x1,oV,i2,a2,List.length_set,x2]
 ·exact ⟨yss,_,y6 h⟩
end
theorem aN9{yss:List (List Int)}{k:Nat}(hk:k < yss.length)(hl:yss.length<=2000)(hr:∀ r∈yss,r.length<=16776900)(c:Int){n:Nat}(hn:1<=n):∃ zss:List (List Int),dE (yss.map bQ) [.d (.int k),.d (.int c),.d (.int n)]=.ok (zss.map bQ):=by
 obtain ⟨a,_,ha⟩:=iA (a:=c / 8) (n:=yss.length) (by omega)
 obtain ⟨t,ht,hta⟩:=iA (a:=(k:Int)+1+(a:Int)) (n:=yss.length) (by omega)
 have hrep:List.replicate 3 (none:Option A)=[none,none,none]:=rfl
 obtain ⟨z0,p0,w0⟩:=aN5 (c:=c) (n:=n) (d:=c % 4) hk ht
 obtain ⟨z1,p1,w1⟩:=aN6 (yss:=z0) (k:=k) (c:=c) (n:=n) (t:=t) (d:=c % 4) (fun h=>by rw[w0 (by omega)];exact hk) (fun h=>by rw[w0 (by omega)];exact hl)
 obtain ⟨z2,p2,w2⟩:=aN7 (yss:=z1) (k:=k) (c:=c) (n:=n) (t:=t) (d:=c % 4) (fun h=>by rw[w1 (by omega),w0 (by omega)];exact hk) (fun h=>by rw[w1 (by omega),w0 (by omega)];exact ht) (fun h=>by rw[w1 (by omega),w0 (by omega)];exact hl)
 obtain ⟨z3,ρ,p3⟩:=aN8 (yss:=z2) (k:=k) (c:=c) (n:=n) (t:=t) (d:=c % 4) (fun h=>by rw[w2 (by omega),w1 (by omega),w0 (by omega)];exact hk) (fun h=>by rw[w2 (by omega),w1 (by omega),w0 (by omega)];exact hr) hn
 refine ⟨z3,?_⟩
 unfold dE
 rw[aLP]
 simp only[vE,bR,cT,eB,cB,cG,bU,b9,List.map_cons,List.map_nil,List.length_cons,List.length_nil,Nat.reduceAdd,Nat.reduceSub,hrep,List.cons_append,List.nil_append,List.getElem?_cons_zero,List.getElem?_cons_succ,R.bind_ok,f9,q8,gR,List.length_map,ha,hta,List.set_cons_zero,List.set_cons_succ,m4']
 rw[show ([some (.l (yss.map bQ)),some (.d (.int k)),some (.d (.int c)),some (.d (.int n)),some (.d (.int t)),some (.d (.int (c % 4))),none]:Sg)=twρ yss k c n t (c % 4) from rfl,p0,R.bind_ok]
 simp only
 rw[p1,R.bind_ok]
 simp only
 rw[p2,R.bind_ok]
 simp only
 rw[p3,R.bind_ok]
theorem aLQ{yss:List (List Int)}{k:Nat}{r:List Int}(hk:yss[k]? = some r)(hr:r≠[])(hl:yss.length<=2000)(c:Int):∃ zss:List (List Int),dM (yss.map bQ) [.d (.int k),.d (.int c)]=.ok (zss.map bQ):=by
 obtain ⟨hkl,hkr⟩:=List.getElem?_eq_some_iff.mp hk
 have hy:yss≠[]:=fun z=>by rw[z] at hkl;cases hkl
 obtain ⟨a,_,ha⟩:=iA (a:=c) (n:=yss.length) (by omega)
 rcases F_at hy hl ((k:Int)+1+(a:Int)) with ⟨j,r2,hj,hr2,f1⟩|⟨h,_⟩
 ·obtain ⟨hjl,hjr⟩:=List.getElem?_eq_some_iff.mp hj
  have r1:1<=r.length:=List.length_pos_iff.mpr hr
  have r21:1<=r2.length:=List.length_pos_iff.mpr hr2
  obtain ⟨s,hs,hsm⟩:=iA (a:=c / 64) r1
  obtain ⟨s2,hs2,hsm2⟩:=iA (a:=c / 4096) r21
  have i1:=ixL bQ hkl
  rw[hkr] at i1
  have i2:=ixL bQ hjl
  rw[hjr] at i2
  have i3:=ixL PyData.int hs
  have i4:=ixL PyData.int hs2
  have x1:=nH hs
  have x2:=nH hs2
  have x3:=nH hjl
  have x4:=nH hkl
  have hrep:List.replicate 5 (none:Option A)=[none,none,none,none,none]:=rfl
  have hat:pJ (.d (.int (j:Int)))=true:=rfl
  unfold dM gJ
  by_cases e:(j:Int)=(k:Int)
  ·refine ⟨yss.set k r,?_⟩
   simp only[vE,bR,cT,rH,cF,cH,eB,cB,cG,bU,b9,List.map_cons,List.map_nil,List.length_cons,List.length_nil,Nat.reduceAdd,Nat.reduceSub,hrep,List.cons_append,List.nil_append,List.getElem?_cons_zero,List.getElem?_cons_succ,R.bind_ok,f9,gR,List.length_map,ha,if_true,f1,hat,List.set_cons_zero,List.set_cons_succ,fQ,i1,i2,wW,q64,aJT,hsm,hsm2,cW,aGE,decide_eq_true e,Bool.not_true,cX,Bool.false_eq_true,if_false,f8,j1,wV,x4,oV]
  ·refine ⟨(yss.set j (r2.set s2 r[s])).set k (r.set s r2[s2]),?_⟩
   simp only[vE,bR,cT,rH,cF,cH,eB,cB,cG,bU,b9,List.map_cons,List.map_nil,List.length_cons,List.length_nil,Nat.reduceAdd,Nat.reduceSub,hrep,List.cons_append,List.nil_append,List.getElem?_cons_zero,List.getElem?_cons_succ,R.bind_ok,f9,gR,List.length_map,ha,if_true,f1,hat,List.set_cons_zero,List.set_cons_succ,fQ,i1,i2,wW,q64,aJT,hsm,hsm2,cW,aGE,decide_eq_false e,Bool.not_false,cX,aC7,gQ,i3,i4,Nat.reduceLeDiff,aC6,x1,x2,wX,j1,wV,x3,oV,List.length_set,x4]
 ·exact absurd (h r (List.mem_of_getElem? hk)) hr
noncomputable def aIT:Sg->R Fw:=(sIf (e1 asB (e2 dEq (rV 4) (eC (.int 0)))) (bB 0 (vD (e2 dIx (eL (eP (aB (eC (.str "by")) (aB (eC (.str "out")) aO)))) (e1 dInt (e2 dEq (rV 0) (eC (.str "by"))))))) (sIf (gP (e1 asB (e2 dIsnt (rV 5) (eC .none))) (e1 asB (e2 dLt (rV 4) (eC (.int 4))))) (kK 1 4 dB (aB (vV 5) (aB (vV 2) (aB (vV 3) aO)))) (sIf (gP (e1 asB (e2 dIsnt (rV 5) (eC .none))) (e1 asB (e2 dEq (rV 4) (eC (.int 4))))) (kK 1 3 dM (aB (vV 5) (aB (vV 2) aO))) (sIf (e1 asB (e2 dIsnt (rV 5) (eC .none))) (kK 1 4 dE (aB (vV 5) (aB (vV 2) (aB (vV 3) aO)))) sNx))))
theorem aOA:jC=(aH (eH 1 (e1 dLst (rV 1)))
 (aH (bB 4 (vD (e2 dMod (rV 2) (eC (.int 7)))))
 (aH (bB 2 (vD (e2 dDiv (rV 2) (eC (.int 7)))))
 (aH (bB 5 (oP 1 2 dX (aB (vD (e2 dMod (rV 2) (eC (.int 64)))) aO)))
 (aH (bB 2 (vD (e2 dDiv (rV 2) (eC (.int 64)))))
 (aH aIT
 (bN (vD (cO (aB (eV 0) (aB (e1 dTup (rV 1)) aO))))))))))):=id rfl
theorem wd2{w:Str}(h:w="by"\/w="out"):∃ w':Str,(w'="by"\/w'="out")/\((dEq (.str w) (.str "by")).bind fun x=>(dInt x).bind fun y=>dIx (.list [.str "by",.str "out"]) y)=.ok (.str w'):=by
 rcases h with rfl|rfl
 ·refine ⟨"out",.inr rfl,?_⟩
  rw[kJ (.inl rfl) (.inl rfl)];rfl
 ·refine ⟨"by",.inl rfl,?_⟩
  rw[kJ (.inr (.inl rfl)) (.inl rfl)];rfl
theorem aIU{yss:List (List Int)}(hy:yss≠[])(hl:yss.length<=2000)(hr:∀ r∈yss,r.length<=16776900){w:Str}(hw:w="by"\/w="out")(c:Int){n:Nat}(hn:1<=n):∃ (w':Str) (zss:List (List Int)),(w'="by"\/w'="out")/\eN [.d (.str w),.d (.tuple (yss.map bQ)),.d (.int c),.d (.int n)]=.ok (.d (.tuple [.str w',.tuple (zss.map bQ)])):=by
 have m7:∀ y:Int,dMod (.int y) (.int 7)=.ok (.int (y % 7)):=fun y=>cE (by decide)
 have q7:∀ y:Int,dDiv (.int y) (.int 7)=.ok (.int (y / 7)):=fun y=>eZ (by decide) (by decide)
 have m64:∀ y:Int,dMod (.int y) (.int 64)=.ok (.int (y % 64)):=fun y=>cE (by decide)
 have hrep:List.replicate 2 (none:Option A)=[none,none]:=rfl
 obtain ⟨o,ho,hat,f1⟩:∃ o:PyData,(o=.none\/∃ (j:Nat) (r:List Int),o=.int j/\yss[j]? = some r/\r≠[])/\pJ (.d o)=true/\dX [.d (.list (yss.map bQ)),.d (.int (c / 7 % 64))]=.ok (.d o):=by
  rcases F_at hy hl (c / 7 % 64) with ⟨j,r,h1,h2,h3⟩|⟨_,h3⟩
  ·exact ⟨.int j,.inr ⟨j,r,rfl,h1,h2⟩,rfl,h3⟩
  ·exact ⟨.none,.inl rfl,rfl,h3⟩
 have hsp:∃ (w':Str) (zss:List (List Int)),(w'="by"\/w'="out")/\aIT [some (.d (.str w)),some (.l (yss.map bQ)),some (.d (.int (c / 7 / 64))),some (.d (.int n)),some (.d (.int (c % 7))),some (.d o)]=.ok (.nx [some (.d (.str w')),some (.l (zss.map bQ)),some (.d (.int (c / 7 / 64))),some (.d (.int n)),some (.d (.int (c % 7))),some (.d o)]):=by
  unfold aIT
  by_cases h0:c % 7=0
  ·obtain ⟨w',hw',e⟩:=wd2 hw
   refine ⟨w',yss,hw',?_⟩
   simp only[cW,cG,cB,bU,b9,List.getElem?_cons_zero,List.getElem?_cons_succ,R.bind_ok,cY,decide_eq_true h0,cX,if_true,cT,eB,y0,iT,cF,cH,List.length_cons,List.length_nil,Nat.reduceAdd,Nat.reduceLeDiff]
   have e':(((dEq (.str w) (.str "by")).bind dInt).bind fun y=>dIx (.list [.str "by",.str "out"]) y)=.ok (.str w'):=by
    rw[<-e]
    cases dEq (.str w) (.str "by")<;>rfl
   rw[e']
   simp only[R.bind_ok,List.set_cons_zero]
  ·rcases ho with rfl|⟨j,r,rfl,h1,h2⟩
   ·refine ⟨w,yss,hw,?_⟩
    simp only[cW,iU,cG,cB,bU,b9,List.getElem?_cons_zero,List.getElem?_cons_succ,R.bind_ok,cY,decide_eq_false h0,cX,Bool.false_eq_true,if_false,sA,aK2,Bool.not_true,f8]
   ·have hjl:=(List.getElem?_eq_some_iff.mp h1).1
    by_cases h4:c % 7 < 4
    ·obtain ⟨zss,e⟩:=aLO h1 h2 (hr r (List.mem_of_getElem? h1)) (c / 7 / 64) n
     refine ⟨w,zss,hw,?_⟩
     simp only[cW,iU,cG,cB,bU,b9,List.getElem?_cons_zero,List.getElem?_cons_succ,R.bind_ok,cY,decide_eq_false h0,cX,Bool.false_eq_true,if_false,sA,wH,Bool.not_false,if_true,nQ,decide_eq_true h4,rJ,cF,cH,gL,List.length_cons,List.length_nil,Nat.reduceAdd,e,List.set_cons_zero,List.set_cons_succ]
    ·by_cases h5:c % 7=4
     ·obtain ⟨zss,e⟩:=aLQ h1 h2 hl (c / 7 / 64)
      refine ⟨w,zss,hw,?_⟩
      simp only[cW,iU,cG,cB,bU,b9,List.getElem?_cons_zero,List.getElem?_cons_succ,R.bind_ok,cY,decide_eq_false h0,cX,Bool.false_eq_true,if_false,sA,wH,Bool.not_false,if_true,nQ,decide_eq_false h4,decide_eq_true h5,rJ,cF,cH,gL,List.length_cons,List.length_nil,Nat.reduceAdd,e,List.set_cons_zero,List.set_cons_succ]
     ·obtain ⟨zss,e⟩:=aN9 hjl hl hr (c / 7 / 64) hn
      refine ⟨w,zss,hw,?_⟩
      simp only[cW,iU,cG,cB,bU,b9,List.getElem?_cons_zero,List.getElem?_cons_succ,R.bind_ok,cY,decide_eq_false h0,cX,Bool.false_eq_true,if_false,sA,wH,Bool.not_false,if_true,nQ,decide_eq_false h4,decide_eq_false h5,rJ,cF,cH,gL,List.length_cons,List.length_nil,Nat.reduceAdd,e,List.set_cons_zero,List.set_cons_succ]
 obtain ⟨w',zss,hw',hsp⟩:=hsp
 refine ⟨w',zss,hw',?_⟩
 have hlt:dLst (.tuple (yss.map bQ))=.ok (yss.map bQ):=rfl
 have htl:dTup (.list (zss.map bQ))=.ok (.tuple (zss.map bQ)):=rfl
 unfold eN
 rw[aOA]
 simp only[d0,bR,fQ,cT,eB,cB,cG,bU,b9,List.map_cons,List.map_nil,List.length_cons,List.length_nil,Nat.reduceAdd,Nat.reduceSub,hrep,List.cons_append,List.nil_append,List.getElem?_cons_zero,List.getElem?_cons_succ,R.bind_ok,hlt,List.set_cons_zero,List.set_cons_succ,m7,q7,m64,rH,cF,cH,if_true,f1,hat,q64,hsp,fM,gQ,iG,htl,Nat.reduceLeDiff]
section
variable{rs:List Rw}{sg:Nat}{z:Str}{ps:List (Int×Int)}{s:Int×Int}
theorem aIV(M:Mach rs sg)(S:c7 sg z.cps.toList)(hp:eK rs z.cps.toList=ps++[s])(P:PathOk rs z.cps.toList ps s)(W:EndW rs z.cps.toList ps s):eU [.d (dL rs),.d (.str z)]=.ok (.d (gW rs z.cps.toList ps s)):=by
 have f1:=vC M S hp
 have f2:=aNO M S
 have f3:=aNY M S P
 rw[<-x9] at f3
 have hfew:=pL M S P
 have il:=x8 ps s
 have hl:=qW (z:=z) (by rw[h8];have:=S.1;omega)
 rw[h8] at hl
 have k:=kJ (wU W) (v:="ever") (.inr (.inr rfl))
 have p0:dIx (prD s) (.int 0)=.ok (.int s.1):=rfl
 have p1:dIx (prD s) (.int 1)=.ok (.int s.2):=rfl
 have hrep:List.replicate 2 (none:Option A)=[none,none]:=rfl
 rw[aBO W] at k
 unfold eU j0 gW
 by_cases n:s∈ps
 ·have hw:eD rs z.cps.toList="ever":=of_decide_eq_true (by rw[aBO W];exact decide_eq_true n)
  have hx:q9 (.list ((ps++[s]).map prD)) (prD s)=.ok (.int (ps.idxOf s)):=by
   unfold q9
   dsimp only
   rw[if_pos ⟨n9 s,vB,by rw[List.length_map,List.length_append];simp;omega⟩,wT s ps [s] n]
  have hln:((ps.length+1:Nat):Int) - 1=ps.length:=by omega
  rw[decide_eq_true n] at k
  rw[hw] at f2 k
  rw[if_pos n]
  simp only[d0,bR,cT,fP,cF,cH,gL,R.bind_ok,List.map_cons,List.map_nil,List.length_cons,List.length_nil,Nat.reduceAdd,Nat.reduceSub,hrep,List.cons_append,List.nil_append,List.getElem?_cons_zero,List.getElem?_cons_succ,if_true,f1,f2,List.set_cons_zero,List.set_cons_succ,eB,cB,cG,bU,iG,b9,cW,k,cX,fM,gQ,qU,il,p0,p1,aC2,aJO,hx,gR,List.length_map,List.length_append,qT,hln,Nat.reduceLeDiff]
 ·rw[decide_eq_false n] at k
  rw[if_neg n]
  simp only[d0,bR,cT,fP,cF,cH,gL,R.bind_ok,List.map_cons,List.map_nil,List.length_cons,List.length_nil,Nat.reduceAdd,Nat.reduceSub,hrep,List.cons_append,List.nil_append,List.getElem?_cons_zero,List.getElem?_cons_succ,if_true,f1,f2,List.set_cons_zero,List.set_cons_succ,eB,cB,cG,bU,iG,b9,cW,k,cX,Bool.false_eq_true,if_false,f8,fM,gQ,hl,f9,l7,f3,kG,Nat.reduceLeDiff]
theorem aLR(M:Mach rs sg)(S:c7 sg z.cps.toList)(P:PathOk rs z.cps.toList ps s):∃ yss:List (List Int),fA (bdL (ps++[s]) (List.replicate (z.cps.toList.length+1) []))=.tuple (yss.map bQ)/\yss≠[]/\yss.length<=2000/\∀ r∈yss,r.length<=16776900:=by
 have hfew:=pL M S P
 have h1:=tY (ps++[s]) (List.replicate (z.cps.toList.length+1) []) fun r hr=>by rw[List.eq_of_mem_replicate hr];intro x hx;cases hx
 have h2:=aC8 (ps++[s]) 100 (List.replicate (z.cps.toList.length+1) []) (fun r hr=>by rw[List.eq_of_mem_replicate hr,List.length_append];simp;omega) (by rw[List.length_append];simp;omega)
 obtain ⟨yss,e1,e2,e3⟩:=aIR h1 h2
 rw[wS,List.length_replicate] at e2
 exact ⟨yss,by unfold fA;rw[e1],fun z=>by rw[z] at e2;simp at e2,by have:=S.1;omega,e3⟩
theorem aIW(M:Mach rs sg)(S:c7 sg z.cps.toList)(hp:eK rs z.cps.toList=ps++[s])(P:PathOk rs z.cps.toList ps s)(W:EndW rs z.cps.toList ps s){w:Str}(hw:w="by"\/w="out")(zss:List (List Int)):gU [.d (dL rs),.d (.str z),.d (.tuple [.str w,.tuple (zss.map bQ)])]=.ok (.d (.bool (decide (PyData.tuple [.str w,.tuple (zss.map bQ)]=gW rs z.cps.toList ps s)))):=by
 by_cases n:s∈ps
 ·rw[aBN M S hp P W n hw,decide_eq_false]
  unfold gW
  rw[if_pos n]
  intro e
  injection e with e
  injection e with _ e
  injection e with _ e
  cases e
 ·rw[aIQ M S hp P W n (aEM (by rcases hw with q|q<;>simp[q]) (cp_tups zss))]
end
noncomputable def aIX:Sg->R Fw:=(aH (bB 7 (bA 4 eN (aB (vV 4) (aB (vV 5) (aB (vD (e1 (d1 wF) (eA (bA 2 a8 (aB (vV 0) (aB (vV 6) aO)))))) (aB (vD (e1 dLen (rV 1))) aO))))))
 (sIf (aAC (e1 asB (eA (bA 2 gS (aB (bA 3 gU (aB (vV 1) (aB (vV 2) (aB (vV 7) aO)))) (aB (vD (e2 dEq (rV 7) (rV 3))) aO)))))) (bN (vD (eC (.bool false)))) sNx))
noncomputable def aEO:Sg->R Fw:=(sIf (e1 asB (e2 dEq (rV 4) (eC (.str "ever")))) (aH (bB 4 (vD (e2 dIx (eL (eP (aB (eC (.str "by")) (aB (eC (.str "out")) aO)))) (e2 dMod (eA (bA 2 a8 (aB (vV 0) (aB (vD (eC (.int 3))) aO)))) (eC (.int 2))))))
 (aH (bB 5 (bA 2 dU (aB (bA 2 dI (aB (vV 1) (aB (vV 2) aO))) (aB (vD (e2 bM (e1 dLen (rV 2)) (eC (.int 1)))) aO))))
 (sIf (e1 asB (e2 dIsntB (eA (bA 3 gU (aB (vV 1) (aB (vV 2) (aB (vD (cO (aB (eV 4) (aB (eV 5) aO)))) aO))))) (eC (.bool false)))) (bN (vD (eC (.bool false)))) sNx))) sNx)
theorem aIY:aEG=(aH (qO (stT [(stN 1),(stN 2)]) (eA (bA 1 fS (aB (vV 0) aO))))
 (aH (bB 3 (bA 2 eU (aB (vV 1) (aB (vV 2) aO))))
 (aH (bB 4 (vD (e2 dIx (rV 3) (eC (.int 0)))))
 (aH (bB 5 (vD (e2 dIx (rV 3) (eC (.int 1)))))
 (aH aEO
 (aH (jT (mC (eC (.int 24)) (eC (.int 36))) (stN 6) aIX)
 (bN (vD (eC (.bool true)))))))))):=id rfl
theorem aIZ:∀ ns:List Int,ns.length<=63->aEH [.d (.list (ns.map .int))]=.ok (.d (.bool true)):=by
 intro ns hns
 rw[show PyData.list (ns.map .int)=fR ns from rfl]
 obtain ⟨rs,z,sg,e,M,S⟩:=aLL (ns:=ns)
 rw[<-aEN] at e
 obtain ⟨ps,s,hp,P,W⟩:=aPA M S
 have f2:=aIV M S hp P W
 obtain ⟨yss,hyb,hy,hl,hr⟩:=aLR M S P
 have hml:dLen (dL rs)=.ok (.int rs.length):=by show dLen (.tuple (rs.map dZ))=_;rw[aF6,List.length_map]
 obtain ⟨x4,x5,w,hx4,hx5,hw,hI⟩:∃ (x4 x5:PyData) (w:Str),dIx (gW rs z.cps.toList ps s) (.int 0)=.ok x4/\dIx (gW rs z.cps.toList ps s) (.int 1)=.ok x5/\(w="by"\/w="out")/\aEO [some (.d (fR ns)),some (.d (dL rs)),some (.d (.str z)),some (.d (gW rs z.cps.toList ps s)),some (.d x4),some (.d x5),none,none]=.ok (.nx [some (.d (fR ns)),some (.d (dL rs)),some (.d (.str z)),some (.d (gW rs z.cps.toList ps s)),some (.d (.str w)),some (.d (.tuple (yss.map bQ))),none,none]):=by
  by_cases n:s∈ps
  ·have ep:gW rs z.cps.toList ps s=.tuple [.str "ever",.int s.1,.int s.2,.int (ps.idxOf s),.int ps.length]:=by unfold gW;rw[if_pos n]
   obtain ⟨v,hv⟩:=lQ ns 3
   obtain ⟨b,hb,hbm⟩:=iA (a:=v) (n:=2) (by decide)
   have hbm:dMod (.int v) (.int 2)=.ok (.int (b:Int)):=hbm
   obtain ⟨w,hw,ix⟩:∃ w:Str,(w="by"\/w="out")/\dIx (.list [.str "by",.str "out"]) (.int (b:Int))=.ok (.str w):=by
    rcases (by omega:b=0\/b=1) with rfl|rfl
    · exact ⟨"by", .inl rfl, rfl⟩
    · exact ⟨"out", .inr rfl, rfl⟩
   have f5:=vC M S hp
   have f6:=aNY M S P
   rw[<-x9,hyb] at f6
   have hzl:=qW (z:=z) (by rw[h8];have:=S.1;omega)
   rw[h8] at hzl
   have kk:dEq (.str "ever") (.str "ever")=.ok (.bool true):=kJ (.inr (.inr rfl)) (.inr (.inr rfl))
   have fh:=aBN M S hp P W n hw [.tuple (yss.map bQ)]
   refine ⟨.str "ever",.int s.1,w,by rw[ep];rfl,by rw[ep];rfl,hw,?_⟩
   unfold aEO
   simp only[cW,cG,cB,bU,b9,List.getElem?_cons_zero,List.getElem?_cons_succ,R.bind_ok,kk,cX,if_true,bR,cT,eB,y0,iT,cF,cH,l7,fP,gL,List.length_cons,List.length_nil,Nat.reduceAdd,Nat.reduceLeDiff,hv,kG,hbm,ix,List.set_cons_zero,List.set_cons_succ,f5,hzl,f9,f6,gQ,iG,fh,aIL,bne_self_eq_false,Bool.false_eq_true,if_false,f8]
  ·have ep:gW rs z.cps.toList ps s=.tuple [.str (eD rs z.cps.toList),.tuple (yss.map bQ)]:=by unfold gW;rw[if_neg n,hyb]
   have hw:eD rs z.cps.toList="by"\/eD rs z.cps.toList="out":=by
    cases W with
    | b w _ _ _=>exact .inl w
    | o w _ _ _=>exact .inr w
    | e w n' _ _=>exact absurd n' n
   have kk:=kJ (wU W) (v:="ever") (.inr (.inr rfl))
   rw[aBO W,decide_eq_false n] at kk
   refine ⟨.str (eD rs z.cps.toList),.tuple (yss.map bQ),eD rs z.cps.toList,by rw[ep];rfl,by rw[ep];rfl,hw,?_⟩
   unfold aEO
   simp only[cW,cG,cB,bU,b9,List.getElem?_cons_zero,List.getElem?_cons_succ,R.bind_ok,kk,cX,Bool.false_eq_true,if_false,f8]
 have hrg:fF 24 36=.ok ((List.range 12).map fun i:Nat=>.int (24+(i:Int))):=rfl
 obtain ⟨ρ',q1,u6,u7,rfl⟩:=mV (fs:=stN 6) (fb:=aIX) (d:=fun i:Nat=>PyData.int (24+(i:Int))) (xs:=List.range 12) (ρ:=[some (.d (fR ns)),some (.d (dL rs)),some (.d (.str z)),some (.d (gW rs z.cps.toList ps s)),some (.d (.str w)),some (.d (.tuple (yss.map bQ))),none,none])
  (fun i ρ=>∃ (u6 u7:Option A),ρ=[some (.d (fR ns)),some (.d (dL rs)),some (.d (.str z)),some (.d (gW rs z.cps.toList ps s)),some (.d (.str w)),some (.d (.tuple (yss.map bQ))),u6,u7]) ⟨none,none,rfl⟩
  (fun i k ρ hk hρ=>by
   obtain ⟨u6,u7,rfl⟩:=hρ
   obtain ⟨v,hv⟩:=lQ ns (24+(k:Int))
   have ab:d1 wF (.int v)=.ok (.int (wF v)):=rfl
   obtain ⟨w',zss,hw',fs⟩:=aIU hy hl hr hw (wF v) M.len
   have fh:=aIW M S hp P W hw' zss
   have ke:=aGN (aEM (show w'="by"\/w'="out"\/w'="ever" by rcases hw' with q|q<;>simp[q]) (cp_tups zss)) (cp_pap W)
   have ft:=aPF (decide (PyData.tuple [.str w',.tuple (zss.map bQ)]=gW rs z.cps.toList ps s))
   refine ⟨_,_,rfl,.inl ?_,some (.d (.int (24+(k:Int)))),some (.d (.tuple [.str w',.tuple (zss.map bQ)])),rfl⟩
   simp only[aIX,bR,cT,fP,cF,cH,gL,eB,cG,cB,l7,bU,b9,List.set_cons_zero,List.set_cons_succ,List.getElem?_cons_zero,List.getElem?_cons_succ,R.bind_ok,List.length_cons,List.length_nil,Nat.reduceAdd,if_true,hv,kG,ab,hml,fs,cW,aK0,fh,ke,ft,cX,Bool.not_true,Bool.false_eq_true,if_false,f8])
 unfold aEH
 rw[aIY]
 have hrep:List.replicate 7 (none:Option A)=[none,none,none,none,none,none,none]:=rfl
 simp only[d0,bR,aKZ,l7,fP,cF,cH,gL,List.map_cons,List.map_nil,List.length_cons,List.length_nil,Nat.reduceAdd,Nat.reduceSub,hrep,List.cons_append,List.nil_append,List.getElem?_cons_zero,List.getElem?_cons_succ,R.bind_ok,if_true,e,kG,aF5,aAY,aCQ,kH,Option.bind_some,fJ,List.set_cons_zero,List.set_cons_succ,cT,f2,eB,cB,bU,b9,hx4,hx5,hI,j4,uR,hrg,q1,fM]
end Mc
namespace L2
open PySem PySem.Spec PyProof.Rows
theorem t4{K:Frag}{C:Addr}(a:PySem.W.nsIn K cStatics "thirdparty.any"=some none)(b:PySem.W.typeIn K (.ref C)=some (.type "type"))(c:PySem.W.findIn K (.type "type") "__getattribute__"=some (some (.builtin "type.__getattribute__")))(d:PySem.W.subIn K (.type "type") (.type "type")=some true):PySem.W.readsIn K C (.type "type")=true:=by
 unfold PySem.W.readsIn
 rw[a,b,c,d]
 rfl
theorem aEP{K:Frag}{C f:Addr}{g:Value}(a:PySem.W.findIn K (.type "type") "__init__"=some (some (.builtin "type.__init__")))(b:PySem.W.specialIn K (.builtin "type.__init__") "__get__"=some (some g))(c:PySem.W.takesIn K (.builtin "type.__init__")=some false)
  (d:PySem.W.findIn K (.ref C) "__init__"=some (some (.ref f))) (e:PySem.W.typeIn K (.ref f)=some (.type "function")):PySem.W.findCls K (.ref C) (.type "type") "__init__"=some (.val (.ref f)):=by
 unfold PySem.W.findCls
 rw[a]
 simp only[Option.bind_some,b,c,d]
 rw[if_neg (by intro z;cases z),e]
 rfl
end L2
namespace Mc
open PySem L2 PyProof.Rows Fl
section
variable{P:Program}{w:World}{K:Frag}{mg:Str->Option Value}{base:Heap}{TH:Hp}
theorem vI:FnScope ["self","at"] ["self","at"] (aM (aQ (top 3) 0)):=by constructor<;>first|rfl|decide +kernel
theorem vJ{f W C:Addr}{fd:FuncData}(F:Fun K "__init__" "NoStrip.__init__" (aQ (top 3) 0) f fd)(c:SX.ExcC K W C)(n1:PySem.W.findIn K (.ref C) "at"=some none) :
  FnOk P w K mg base CX0 1 f fd ["self","at"] (spI C ["at"]):=by
 refine F.ok vI (fun vs H Q E h=>?_) (fun cdv A outer s H vs Q E hr h=>?_)
 ·obtain ⟨e,xs,rfl,hl,_⟩:=h
  rw[List.length_cons,hl];rfl
 ·obtain ⟨e,xs,rfl,hl,he,q⟩:=h
  obtain ⟨x,rfl⟩:∃ x,xs=[x]:=Mc.bn1 (P:=fun xs=>∃ x,xs=[x]) (fun x=>⟨x,rfl⟩) xs hl
  refine ⟨_,L2.aS (aKA (pv 0) (pv 1) rfl),?_⟩
  refine ⟨_,rfl,_,rfl,e,W,C,rfl,c,n1,.inl ⟨he,fun d hd hne=>?_⟩⟩
  exact q d hd hne
def kL (K : Frag) (mg : Str -> Option Value) : Prop := ∃ W C, SX.ExcC K W C /\ mg "NoStrip" = some (.ref C) /\ PySem.W.findIn K (.ref C) "at" = some none /\
      ∃ fI fdI, Fun K "__init__" "NoStrip.__init__" (aQ (top 3) 0) fI fdI /\ dC K fdI ["self", "at"] [] /\ PySem.W.findIn K (.ref C) "__init__" = some (some (.ref fI)) /\ PySem.W.typeIn K (.ref fI) = some (.type "function")
theorem wY(h:kL K mg):∃ W C,ErrAt P w K mg base "NoStrip" ["at"] W C:=by
 obtain ⟨W,C,er,m,n1,fI,fdI,FI,bI,aI,tI⟩:=h
 have I:=vJ (P:=P) (w:=w) (mg:=mg) (base:=base) FI er n1
 exact ⟨W,C,er,m,fun f hf=>by rw[List.mem_singleton.mp hf];exact n1,fI,fdI,I,aI,tI,bI⟩
theorem wZ:FnScope ["self","place","room"] ["self","place","room"] (aM (aQ (top 12) 0)):=by constructor<;>first|rfl|decide +kernel
theorem lA{f:Addr}{fd:FuncData}(F:Fun K "__init__" "Ending.__init__" (aQ (top 12) 0) f fd):FnOk P w K mg base CX0 1 f fd ["self","place","room"] (spB K ["place","room"]):=by
 refine F.ok wZ (fun vs H Q E h=>?_) (fun cdv A outer s H vs Q E hr h=>?_)
 ·obtain ⟨x,C,dx,us,rfl,hl,_⟩:=h
  rw[List.length_cons,hl];rfl
 ·obtain ⟨x,C,dx,us,rfl,hl,hx,cl,na,q⟩:=h
  obtain ⟨u0,u1,rfl⟩:∃ u0 u1,us=[u0,u1]:=match us,hl with|[u0,u1],_=>⟨u0,u1,rfl⟩
  refine ⟨_,L2.aF (oE (pv 0) (pv 1) rfl) (L2.aS (oE (pv 0) (pv 2) rfl)),?_⟩
  refine ⟨_,rfl,_,rfl,x,C,dx,_,rfl,hx,cl,na _ (by decide),(show (0:Nat) < 1000 by decide),?_⟩
  refine ⟨_,rfl,_,rfl,x,C,dx,_,rfl,aY,cl,na _ (by decide),(show (1:Nat) < 1000 by decide),?_⟩
  rw[L2.iQ];exact q
theorem yI:FnScope ["self","place","room","borders"] ["self","place","room","borders"] (aM (aQ (top 13) 0)):=by constructor<;>first|rfl|decide +kernel
theorem yJ{f C CE fE:Addr}{fd fdE:FuncData}(F:Fun K "__init__" "LetBy.__init__" (aQ (top 13) 0) f fd)(FE:FnOk P w K mg base CX0 1 fE fdE ["self","place","room"] (spB K ["place","room"]))(bE:dC K fdE ["self","place","room"] [])(cm:ClsM K CE "__init__" fE)(mE:mg "Ending"=some (.ref CE))(cl:Cls K C)(na:∀ f∈(["place","room","borders"]:List Str),dG K C f):FnOk P w K mg base CX0 2 f fd ["self","place","room","borders"] (spO C ["place","room","borders"]):=by
 refine F.ok yI (fun vs H Q E h=>?_) (fun cdv A outer s H vs Q E hr h=>?_)
 ·obtain ⟨x,dx,us,rfl,hl,_⟩:=h
  rw[List.length_cons,hl];rfl
 ·obtain ⟨x,dx,us,rfl,hl,hx,q⟩:=h
  obtain ⟨u0,u1,u2,rfl⟩:∃ u0 u1 u2,us=[u0,u1,u2]:=match us,hl with|[u0,u1,u2],_=>⟨u0,u1,u2,rfl⟩
  refine ⟨_,L2.aF (L2.dO (wI (kP (v:=.ref CE) rfl mE rfl) cm FE hr bE .nil yS (aJ (pv 0) (aJ (pv 1) (aJ (pv 2) aU))))) (L2.aS (oE (pv 0) (pv 3) rfl)),?_⟩
  refine ⟨rfl,_,rfl,_,rfl,_,rfl,x,C,dx,[u0,u1],rfl,rfl,hx,cl,fun f hf=>na f (by simp only[List.mem_cons,List.not_mem_nil,or_false] at hf ⊢;rcases hf with h|h<;>simp[h]),?_⟩
  refine ⟨_,rfl,_,rfl,x,C,dx,_,rfl,aY,cl,na _ (by decide),(show (2:Nat) < 1000 by decide),?_⟩
  rw[L2.iQ];exact q
def n6(K:Frag)(mg:Str->Option Value):Prop:=∃ CE fE fdE C fI fdI,mg "Ending"=some (.ref CE)/\ClsM K CE "__init__" fE/\Fun K "__init__" "Ending.__init__" (aQ (top 12) 0) fE fdE/\dC K fdE ["self","place","room"] []/\mg "LetBy"=some (.ref C)/\Cls K C/\(∀ f∈(["place","room","borders"]:List Str),dG K C f)/\Mk K C fI/\Fun K "__init__" "LetBy.__init__" (aQ (top 13) 0) fI fdI/\dC K fdI ["self","place","room","borders"] []
theorem aB0(h:n6 K mg):∃ C,MkAt P w K mg base 2 "LetBy" ["place","room","borders"] C:=by
 obtain ⟨CE,fE,fdE,C,fI,fdI,m1,cm,FE,bE,m2,cl,na,M,FI,bI⟩:=h
 exact ⟨C,m2,fI,fdI,M,yJ FI (lA FE) bE cm m1 cl na,bI⟩
theorem vK:FnScope ["self","place","room","borders"] ["self","place","room","borders"] (aM (aQ (top 14) 0)):=by constructor<;>first|rfl|decide +kernel
theorem vL{f C CE fE:Addr}{fd fdE:FuncData}(F:Fun K "__init__" "ShutOut.__init__" (aQ (top 14) 0) f fd)(FE:FnOk P w K mg base CX0 1 fE fdE ["self","place","room"] (spB K ["place","room"]))(bE:dC K fdE ["self","place","room"] [])(cm:ClsM K CE "__init__" fE)(mE:mg "Ending"=some (.ref CE))(cl:Cls K C)(na:∀ f∈(["place","room","borders"]:List Str),dG K C f):FnOk P w K mg base CX0 2 f fd ["self","place","room","borders"] (spO C ["place","room","borders"]):=by
 refine F.ok vK (fun vs H Q E h=>?_) (fun cdv A outer s H vs Q E hr h=>?_)
 ·obtain ⟨x,dx,us,rfl,hl,_⟩:=h
  rw[List.length_cons,hl];rfl
 ·obtain ⟨x,dx,us,rfl,hl,hx,q⟩:=h
  obtain ⟨u0,u1,u2,rfl⟩:∃ u0 u1 u2,us=[u0,u1,u2]:=match us,hl with|[u0,u1,u2],_=>⟨u0,u1,u2,rfl⟩
  refine ⟨_,L2.aF (L2.dO (wI (kP (v:=.ref CE) rfl mE rfl) cm FE hr bE .nil yS (aJ (pv 0) (aJ (pv 1) (aJ (pv 2) aU))))) (L2.aS (oE (pv 0) (pv 3) rfl)),?_⟩
  refine ⟨rfl,_,rfl,_,rfl,_,rfl,x,C,dx,[u0,u1],rfl,rfl,hx,cl,fun f hf=>na f (by simp only[List.mem_cons,List.not_mem_nil,or_false] at hf ⊢;rcases hf with h|h<;>simp[h]),?_⟩
  refine ⟨_,rfl,_,rfl,x,C,dx,_,rfl,aY,cl,na _ (by decide),(show (2:Nat) < 1000 by decide),?_⟩
  rw[L2.iQ];exact q
def lI(K:Frag)(mg:Str->Option Value):Prop:=∃ CE fE fdE C fI fdI,mg "Ending"=some (.ref CE)/\ClsM K CE "__init__" fE/\Fun K "__init__" "Ending.__init__" (aQ (top 12) 0) fE fdE/\dC K fdE ["self","place","room"] []/\mg "ShutOut"=some (.ref C)/\Cls K C/\(∀ f∈(["place","room","borders"]:List Str),dG K C f)/\Mk K C fI/\Fun K "__init__" "ShutOut.__init__" (aQ (top 14) 0) fI fdI/\dC K fdI ["self","place","room","borders"] []
theorem yK(h:lI K mg):∃ C,MkAt P w K mg base 2 "ShutOut" ["place","room","borders"] C:=by
 obtain ⟨CE,fE,fdE,C,fI,fdI,m1,cm,FE,bE,m2,cl,na,M,FI,bI⟩:=h
 exact ⟨C,m2,fI,fdI,M,vL FI (lA FE) bE cm m1 cl na,bI⟩
theorem vM:FnScope ["self","place","room","first","again"] ["self","place","room","first","again"] (aM (aQ (top 15) 0)):=by constructor<;>first|rfl|decide +kernel
theorem vN{f C CE fE:Addr}{fd fdE:FuncData}(F:Fun K "__init__" "ForEver.__init__" (aQ (top 15) 0) f fd)(FE:FnOk P w K mg base CX0 1 fE fdE ["self","place","room"] (spB K ["place","room"]))(bE:dC K fdE ["self","place","room"] [])(cm:ClsM K CE "__init__" fE)(mE:mg "Ending"=some (.ref CE))(cl:Cls K C)(na:∀ f∈(["place","room","first","again"]:List Str),dG K C f):FnOk P w K mg base CX0 2 f fd ["self","place","room","first","again"] (spO C ["place","room","first","again"]):=by
 refine F.ok vM (fun vs H Q E h=>?_) (fun cdv A outer s H vs Q E hr h=>?_)
 ·obtain ⟨x,dx,us,rfl,hl,_⟩:=h
  rw[List.length_cons,hl];rfl
 ·obtain ⟨x,dx,us,rfl,hl,hx,q⟩:=h
  obtain ⟨u0,u1,u2,u3,rfl⟩:∃ u0 u1 u2 u3,us=[u0,u1,u2,u3]:=match us,hl with|[u0,u1,u2,u3],_=>⟨u0,u1,u2,u3,rfl⟩
  refine ⟨_,L2.aF (L2.dO (wI (kP (v:=.ref CE) rfl mE rfl) cm FE hr bE .nil yS (aJ (pv 0) (aJ (pv 1) (aJ (pv 2) aU))))) (L2.aF (oE (pv 0) (pv 3) rfl) (L2.aS (oE (pv 0) (pv 4) rfl))),?_⟩
  refine ⟨rfl,_,rfl,_,rfl,_,rfl,x,C,dx,[u0,u1],rfl,rfl,hx,cl,fun f hf=>na f (by simp only[List.mem_cons,List.not_mem_nil,or_false] at hf ⊢;rcases hf with h|h<;>simp[h]),?_⟩
  refine ⟨_,rfl,_,rfl,x,C,dx,_,rfl,aY,cl,na _ (by decide),(show (2:Nat) < 1000 by decide),?_⟩
  refine ⟨_,rfl,_,rfl,x,C,dx,_,rfl,aY,cl,na _ (by decide),(show (3:Nat) < 1000 by decide),?_⟩
  rw[L2.iQ,L2.iQ];exact q
def lJ(K:Frag)(mg:Str->Option Value):Prop:=∃ CE fE fdE C fI fdI,mg "Ending"=some (.ref CE)/\ClsM K CE "__init__" fE/\Fun K "__init__" "Ending.__init__" (aQ (top 12) 0) fE fdE/\dC K fdE ["self","place","room"] []/\mg "ForEver"=some (.ref C)/\Cls K C/\(∀ f∈(["place","room","first","again"]:List Str),dG K C f)/\Mk K C fI/\Fun K "__init__" "ForEver.__init__" (aQ (top 15) 0) fI fdI/\dC K fdI ["self","place","room","first","again"] []
theorem yL(h:lJ K mg):∃ C,MkAt P w K mg base 2 "ForEver" ["place","room","first","again"] C:=by
 obtain ⟨CE,fE,fdE,C,fI,fdI,m1,cm,FE,bE,m2,cl,na,M,FI,bI⟩:=h
 exact ⟨C,m2,fI,fdI,M,vN FI (lA FE) bE cm m1 cl na,bI⟩
def kM(K:Frag)(mg:Str->Option Value):Prop:=∃ C f fd,mg "LetBy"=some (.ref C)/\Cls K C/\Meth K C "stops" f/\Fun K "stops" "LetBy.stops" (aQ (top 13) 2) f fd/\dC K fd ["self"] []
def kN(K:Frag)(mg:Str->Option Value):Prop:=∃ C f fd,mg "LetBy"=some (.ref C)/\Cls K C/\Meth K C "paper" f/\Fun K "paper" "LetBy.paper" (aQ (top 13) 3) f fd/\dC K fd ["self"] []
def jD(K:Frag)(mg:Str->Option Value):Prop:=∃ C f fd,mg "ShutOut"=some (.ref C)/\Cls K C/\Meth K C "stops" f/\Fun K "stops" "ShutOut.stops" (aQ (top 14) 2) f fd/\dC K fd ["self"] []
def jE(K:Frag)(mg:Str->Option Value):Prop:=∃ C f fd,mg "ShutOut"=some (.ref C)/\Cls K C/\Meth K C "paper" f/\Fun K "paper" "ShutOut.paper" (aQ (top 14) 3) f fd/\dC K fd ["self"] []
def jF(K:Frag)(mg:Str->Option Value):Prop:=∃ C f fd,mg "ForEver"=some (.ref C)/\Cls K C/\Meth K C "stops" f/\Fun K "stops" "ForEver.stops" (aQ (top 15) 2) f fd/\dC K fd ["self"] []
def jG(K:Frag)(mg:Str->Option Value):Prop:=∃ C f fd,mg "ForEver"=some (.ref C)/\Cls K C/\Meth K C "paper" f/\Fun K "paper" "ForEver.paper" (aQ (top 15) 3) f fd/\dC K fd ["self"] []
theorem aLS(T:Txt w K mg)(Er_NoStrip:kL K mg)(Ob_LetBy:n6 K mg)(Ob_ShutOut:lI K mg)(Ob_ForEver:lJ K mg)(fo_first:g9 K mg ["ForEver"] "first")(fo_again:g9 K mg ["ForEver"] "again")(fo_borders:g9 K mg ["LetBy","ShutOut"] "borders")(fo_room:g9 K mg ["LetBy","ShutOut","ForEver"] "room")(fo_place:g9 K mg ["LetBy","ShutOut","ForEver"] "place")(Mt_LetBy_stops:kM K mg)(Mt_ShutOut_stops:jD K mg)(Mt_ForEver_stops:jF K mg)(Mt_LetBy_paper:kN K mg)(Mt_ShutOut_paper:jE K mg)(Mt_ForEver_paper:jG K mg)(D7:DefAt K mg "signs_of" (top 7) ["machine"])(D8:DefAt K mg "checked_by" (top 8) ["signs","strip"])(D9:DefAt K mg "checked" (top 9) ["machine","strip"])(D16:DefAt K mg "cell_at" (top 16) ["machine","strip","stand"])(D17:DefAt K mg "path" (top 17) ["machine","strip"])(D18:DefAt K mg "borders_of" (top 18) ["stands","strip"])(D19:DefAt K mg "walk" (top 19) ["machine","strip"])(D21:DefAt K mg "stand_at" (top 21) ["stands","ending","number"])(D22:DefAt K mg "goes_round" (top 22) ["machine","strip","ending","paper"])(D23:DefAt K mg "holds" (top 23) ["machine","strip","paper"])(D25:DefAt K mg "_law_truth" (top 25) ["_law_found","_law_due"])(D26:DefAt K mg "_law_cell" (top 26) ["_law_script","_law_k"])(D27:DefAt K mg "_law_end" (top 27) ["_law_number","_law_rooms"])(D28:DefAt K mg "_law_digit_row" (top 28) ["_law_number","_law_rooms","_law_signs"])(D29:DefAt K mg "_law_mixed_row" (top 29) ["_law_number","_law_rooms","_law_signs"])(D30:DefAt K mg "_law_machine" (top 30) ["_law_script","_law_at_here","_law_rooms","_law_signs"])(D31:DefAt K mg "_law_strip" (top 31) ["_law_script","_law_at_here","_law_size","_law_signs"])(D32:DefAt K mg "_law_step" (top 32) ["_law_machine_here","_law_strip_here","_law_stand"])(D33:DefAt K mg "_law_stands" (top 33) ["_law_machine_here","_law_strip_here"])(D34:DefAt K mg "_law_says" (top 34) ["_law_machine_here","_law_strip_here"])(D35:DefAt K mg "_law_borders" (top 35) ["_law_stands_here","_law_many"])(D36:DefAt K mg "_law_paper" (top 36) ["_law_machine_here","_law_strip_here"])(D37:DefAt K mg "_law_drawn" (top 37) ["_law_script"])(D38:DefAt K mg "_law_at" (top 38) ["_law_borders_here","_law_cell_here"])(D39:DefAt K mg "_law_room_spoilt" (top 39) ["_law_borders_here","_law_at_here","_law_cell_here","_law_rooms"])(D40:DefAt K mg "_law_two_spoilt" (top 40) ["_law_borders_here","_law_at_here","_law_cell_here","_law_rooms"])(D41:DefAt K mg "_law_exchanged" (top 41) ["_law_borders_here","_law_at_here","_law_cell_here"])(D42:DefAt K mg "_law_spoilt" (top 42) ["_law_word","_law_borders_here","_law_cell_here","_law_rooms"]){fL:Addr}{fdL:FuncData}(FL:Fun K "law" "law" (top 43) fL fdL):FnOk P w K mg base (CXe P w) 8 fL fdL ["_law_script"] (yY K TH):=by
 obtain ⟨W_NoStrip,C_NoStrip,er_NoStrip⟩:=wY (P:=P) (w:=w) (base:=base) Er_NoStrip
 obtain ⟨Co_LetBy,mk_LetBy⟩:=aB0 (P:=P) (w:=w) (base:=base) Ob_LetBy
 obtain ⟨Co_ShutOut,mk_ShutOut⟩:=yK (P:=P) (w:=w) (base:=base) Ob_ShutOut
 obtain ⟨Co_ForEver,mk_ForEver⟩:=yL (P:=P) (w:=w) (base:=base) Ob_ForEver
 have mt_stops:∀ p∈[(("LetBy":Str),hV),(("ShutOut":Str),gB),(("ForEver":Str),gD)],wK P w K mg base TH 1 p.1 "stops" p.2:=by
  intro p hp
  simp only[List.mem_cons,List.not_mem_nil,or_false] at hp
  rcases hp with rfl|rfl|rfl
  ·obtain ⟨C,f,fd,h1,h2,h3,h4,h5⟩:=Mt_LetBy_stops
   exact ⟨C,f,fd,h1,h2,h3,uW T h4 ,h5⟩
  ·obtain ⟨C,f,fd,h1,h2,h3,h4,h5⟩:=Mt_ShutOut_stops
   exact ⟨C,f,fd,h1,h2,h3,sG T h4 ,h5⟩
  ·obtain ⟨C,f,fd,h1,h2,h3,h4,h5⟩:=Mt_ForEver_stops
   exact ⟨C,f,fd,h1,h2,h3,sI T h4 ,h5⟩
 have mt_paper:∀ p∈[(("LetBy":Str),hX),(("ShutOut":Str),gC),(("ForEver":Str),gE)],wK P w K mg base TH 1 p.1 "paper" p.2:=by
  intro p hp
  simp only[List.mem_cons,List.not_mem_nil,or_false] at hp
  rcases hp with rfl|rfl|rfl
  ·obtain ⟨C,f,fd,h1,h2,h3,h4,h5⟩:=Mt_LetBy_paper
   exact ⟨C,f,fd,h1,h2,h3,uX T h4 fo_borders,h5⟩
  ·obtain ⟨C,f,fd,h1,h2,h3,h4,h5⟩:=Mt_ShutOut_paper
   exact ⟨C,f,fd,h1,h2,h3,sH T h4 fo_borders,h5⟩
  ·obtain ⟨C,f,fd,h1,h2,h3,h4,h5⟩:=Mt_ForEver_paper
   exact ⟨C,f,fd,h1,h2,h3,sJ T h4 fo_again fo_first fo_room fo_place,h5⟩
 have c_signs_of:=@aBX P w K mg base TH T D7
 have c_checked_by:=yB (P:=P) (w:=w) (base:=base) (TH:=TH) T D8 er_NoStrip
 have c_checked:=@aEI P w K mg base TH T D9 c_checked_by c_signs_of
 have c_cell_at:=@aEJ P w K mg base TH T D16
 have c_path:=@aLE P w K mg base TH T D17 c_checked c_cell_at
 have c_borders_of:=@yC P w K mg base TH T D18
 have c_walk:=aLF (P:=P) (w:=w) (base:=base) (TH:=TH) T D19 c_path c_cell_at c_borders_of mk_LetBy mk_ShutOut mk_ForEver
 have c_stand_at:=@aBY P w K mg base TH T D21 fo_first fo_again
 have c_goes_round:=@yD P w K mg base TH T D22 c_path c_stand_at
 have c_holds:=@aIK P w K mg base TH T D23 c_walk c_goes_round mt_stops mt_paper
 have c__law_truth:=@yE P w K mg base TH T D25
 have c__law_cell:=@aBF P w K mg base TH T D26
 have c__law_end:=@aBZ P w K mg base TH T D27
 have c__law_digit_row:=@sK P w K mg base TH T D28
 have c__law_mixed_row:=@sL P w K mg base TH T D29 c__law_end
 have c__law_machine:=@u8 P w K mg base TH T D30 c__law_digit_row c__law_mixed_row c__law_cell
 have c__law_strip:=@yF P w K mg base TH T D31 c__law_cell
 have c__law_step:=@aBG P w K mg base TH T D32
 have c__law_stands:=@wM P w K mg base TH T D33 c__law_step
 have c__law_says:=@aBH P w K mg base TH T D34 c__law_stands c__law_step
 have c__law_borders:=@u9 P w K mg base TH T D35
 have c__law_paper:=@yG P w K mg base TH T D36 c__law_stands c__law_says c__law_borders
 have c__law_drawn:=@yH P w K mg base TH T D37 c__law_cell c__law_strip c__law_machine
 have c__law_at:=@aEK P w K mg base TH T D38
 have c__law_room_spoilt:=@pW P w K mg base TH T D39
 have c__law_two_spoilt:=@rG P w K mg base TH T D40
 have c__law_exchanged:=@sM P w K mg base TH T D41 c__law_at
 have c__law_spoilt:=@wN P w K mg base TH T D42 c__law_at c__law_room_spoilt c__law_exchanged c__law_two_spoilt
 exact aM8 (aNP (P:=P) (w:=w) (base:=base) (TH:=TH) T FL c__law_drawn c__law_paper c__law_cell c__law_borders c__law_stands c_holds c__law_spoilt c__law_truth) aIZ
end
section
variable{w:World}{K:Frag}{h:Heap}{mg:Str->Option Value}
theorem aOB(X:K.In h)(G:h.Ns mainGlobals mg){a_BEGIN:Addr}{t_SIGNS:Nat}{a_STOPS:Addr}(z_abs:PySem.W.nsIn K mainGlobals "abs"=some none)(z_bool:PySem.W.nsIn K mainGlobals "bool"=some none)(z_enumerate:PySem.W.nsIn K mainGlobals "enumerate"=some none)(z_int:PySem.W.nsIn K mainGlobals "int"=some none)(z_isinstance:PySem.W.nsIn K mainGlobals "isinstance"=some none)(z_len:PySem.W.nsIn K mainGlobals "len"=some none)(z_list:PySem.W.nsIn K mainGlobals "list"=some none)(z_min:PySem.W.nsIn K mainGlobals "min"=some none)(z_range:PySem.W.nsIn K mainGlobals "range"=some none)(z_str:PySem.W.nsIn K mainGlobals "str"=some none)(z_tuple:PySem.W.nsIn K mainGlobals "tuple"=some none)(z_zip:PySem.W.nsIn K mainGlobals "zip"=some none)(s_BEGIN:PySem.W.nsIn K mainGlobals "BEGIN"=some (some (.ref a_BEGIN)))(m_BEGIN:oY K a_BEGIN [.int 0,.int 0])(s_SIGNS:PySem.W.nsIn K mainGlobals "SIGNS"=some (some (.str "abc" t_SIGNS)))(s_STOPS:PySem.W.nsIn K mainGlobals "STOPS"=some (some (.ref a_STOPS)))(m_STOPS:oY K a_STOPS [.str "by",.str "out"]):Txt w K mg:=⟨PySem.W.mg_none_of X G z_abs,PySem.W.mg_none_of X G z_bool,PySem.W.mg_none_of X G z_enumerate,PySem.W.mg_none_of X G z_int,PySem.W.mg_none_of X G z_isinstance,PySem.W.mg_none_of X G z_len,PySem.W.mg_none_of X G z_list,PySem.W.mg_none_of X G z_min,PySem.W.mg_none_of X G z_range,PySem.W.mg_none_of X G z_str,PySem.W.mg_none_of X G z_tuple,PySem.W.mg_none_of X G z_zip,⟨a_BEGIN,PySem.W.mg_of X G s_BEGIN,m_BEGIN⟩,⟨t_SIGNS,PySem.W.mg_of X G s_SIGNS⟩,⟨a_STOPS,PySem.W.mg_of X G s_STOPS,m_STOPS⟩⟩
theorem yM(X:K.In h)(G:h.Ns mainGlobals mg){W C fI NC:Addr}{bsC subC:List Value}{nmC qC:Str}{abC:Bool}{snC:List Str}{colC:Option Bool}{ddC:Option Addr}{c0 c1 c2 c3 c5:Option Value}
  {oc:Value} {od an:Option Addr} {osl:Array (Option Value)} {kV doc pm cdv ct:Value}
  (m:PySem.W.nsIn K mainGlobals "NoStrip"=some (some (.ref C)))
  (e1:K.lookup C=some (excClassObj nmC qC C NC bsC (.ref W::SX.i8) true snC subC abC colC ddC c0 c1 c2 c3 c5 "ValueError.__new__"))
  (e2:PySem.W.findIn K (.ref C) "__setattr__"=some (some (.builtin "object.__setattr__"))) (e3:PySem.W.findIn K (.ref C) "__getattribute__"=some (some (.builtin "BaseException.__getattribute__"))) (e4:PySem.W.findIn K (.ref C) "__getattr__"=some none) (e5:PySem.W.findIn K (.ref C) "__class__"=some (some (.builtin "object.__class__")))
  (e6:PySem.W.specialIn K (.builtin "object.__class__") "__get__"=some (some (.builtin "getset_descriptor.__get__"))) (e7:PySem.W.takesIn K (.builtin "object.__class__")=some true) (e8:PySem.W.keepIn K (.ref C)=true)
  (p1:PySem.W.findIn K (.ref C) "at"=some none)
  (i1:PySem.W.findIn K (.ref C) "__init__"=some (some (.ref fI))) (i2:K.lookup fI=some ⟨oc,od,.func (PySem.W.fnOf "__init__" "NoStrip.__init__" (dD (aQ (top 3) 0)) (cC (aQ (top 3) 0)) (aM (aQ (top 3) 0)) .none kV doc pm an cdv ct),osl⟩) (i3:PySem.W.codeIn K cdv "NoStrip.__init__"=true) (i4:PySem.W.keepIn K (.ref fI)=true) (i5:PySem.W.typeIn K (.ref fI)=some (.type "function")):kL K mg:=by
 have FI:=fN (st:=aQ (top 3) 0) i2 i3 i4
 exact ⟨W,C,aKB e1 e2 e3 e4 e5 e6 e7 e8,PySem.W.mg_of X G m,p1,fI,_,FI,FI.binds (ps:=["self","at"]) (fun _ _ _ _ _ _=>Mc.bn2 fun _ _=>rfl),i1,i5⟩
theorem aB1(X:K.In h)(G:h.Ns mainGlobals mg){CE C:Addr}{g:Value}{fe_:Addr}{e_oc:Value}{e_od e_an:Option Addr}{e_osl:Array (Option Value)}{e_kV e_doc e_pm e_cdv e_ct:Value}{fi_:Addr}{i_oc:Value}{i_od i_an:Option Addr}{i_osl:Array (Option Value)}{i_kV i_doc i_pm i_cdv i_ct:Value}(m1:PySem.W.nsIn K mainGlobals "Ending"=some (some (.ref CE)))(s1:PySem.W.specialIn K (.ref CE) "__getattribute__"=some (some (.builtin "type.__getattribute__")))
  (r1:PySem.W.nsIn K cStatics "thirdparty.any"=some none) (r2:PySem.W.typeIn K (.ref CE)=some (.type "type")) (r3:PySem.W.findIn K (.type "type") "__getattribute__"=some (some (.builtin "type.__getattribute__"))) (r4:PySem.W.subIn K (.type "type") (.type "type")=some true)
  (q1:PySem.W.findIn K (.type "type") "__init__"=some (some (.builtin "type.__init__"))) (q2:PySem.W.specialIn K (.builtin "type.__init__") "__get__"=some (some g)) (q3:PySem.W.takesIn K (.builtin "type.__init__")=some false) (q4:PySem.W.findIn K (.ref CE) "__init__"=some (some (.ref fe_))) (q5:PySem.W.typeIn K (.ref fe_)=some (.type "function"))
  (e_l:K.lookup fe_=some ⟨e_oc,e_od,.func (PySem.W.fnOf "__init__" "Ending.__init__" (dD (aQ (top 12) 0)) (cC (aQ (top 12) 0)) (aM (aQ (top 12) 0)) .none e_kV e_doc e_pm e_an e_cdv e_ct),e_osl⟩) (e_c:PySem.W.codeIn K e_cdv "Ending.__init__"=true) (e_k:PySem.W.keepIn K (.ref fe_)=true)
  (m2:PySem.W.nsIn K mainGlobals "LetBy"=some (some (.ref C))) (p1:PySem.W.plainGet K C Str.empty=true) (p2:PySem.W.hasDictIn K C=true) (p3:PySem.W.plainOver K C=true) (p4:PySem.W.findIn K (.ref C) "__setattr__"=some (some (.builtin "object.__setattr__")))
  (n0:PySem.W.findIn K (.ref C) "place"=some none) (n1:PySem.W.findIn K (.ref C) "room"=some none) (n2:PySem.W.findIn K (.ref C) "borders"=some none) (k1:PySem.W.makesIn K C=true) (k2:PySem.W.findIn K (.ref C) "__init__"=some (some (.ref fi_))) (k3:PySem.W.isFn K (.ref fi_)=true) (k4:PySem.W.keepIn K (.ref C)=true)
  (i_l:K.lookup fi_=some ⟨i_oc,i_od,.func (PySem.W.fnOf "__init__" "LetBy.__init__" (dD (aQ (top 13) 0)) (cC (aQ (top 13) 0)) (aM (aQ (top 13) 0)) .none i_kV i_doc i_pm i_an i_cdv i_ct),i_osl⟩) (i_c:PySem.W.codeIn K i_cdv "LetBy.__init__"=true) (i_k:PySem.W.keepIn K (.ref fi_)=true):n6 K mg:=by
 have FE:=fN (st:=(aQ (top 12) 0)) e_l e_c e_k
 have FI:=fN (st:=(aQ (top 13) 0)) i_l i_c i_k
 exact ⟨CE,fe_,_,C,fi_,_,PySem.W.mg_of X G m1,⟨s1,t4 r1 r2 r3 r4,aEP q1 q2 q3 q4 q5,e_k⟩,FE,FE.binds (ps:=["self","place","room"]) (fun _ _ _ _ _ _=>Mc.bn3 fun _ _ _=>rfl),PySem.W.mg_of X G m2,⟨p1,p2,p3,p4⟩,fun f hf=>by
  simp only[List.mem_cons,List.not_mem_nil,or_false] at hf
  rcases hf with rfl|rfl|rfl
  · exact n0
  · exact n1
  · exact n2, ⟨k1, k2, k3, k4⟩, FI, FI.binds (ps := ["self", "place", "room", "borders"]) (fun _ _ _ _ _ _ => Mc.bn4 fun _ _ _ _ => rfl)⟩
theorem yN(X:K.In h)(G:h.Ns mainGlobals mg){CE C:Addr}{g:Value}{fe_:Addr}{e_oc:Value}{e_od e_an:Option Addr}{e_osl:Array (Option Value)}{e_kV e_doc e_pm e_cdv e_ct:Value}{fi_:Addr}{i_oc:Value}{i_od i_an:Option Addr}{i_osl:Array (Option Value)}{i_kV i_doc i_pm i_cdv i_ct:Value}(m1:PySem.W.nsIn K mainGlobals "Ending"=some (some (.ref CE)))(s1:PySem.W.specialIn K (.ref CE) "__getattribute__"=some (some (.builtin "type.__getattribute__")))
  (r1:PySem.W.nsIn K cStatics "thirdparty.any"=some none) (r2:PySem.W.typeIn K (.ref CE)=some (.type "type")) (r3:PySem.W.findIn K (.type "type") "__getattribute__"=some (some (.builtin "type.__getattribute__"))) (r4:PySem.W.subIn K (.type "type") (.type "type")=some true)
  (q1:PySem.W.findIn K (.type "type") "__init__"=some (some (.builtin "type.__init__"))) (q2:PySem.W.specialIn K (.builtin "type.__init__") "__get__"=some (some g)) (q3:PySem.W.takesIn K (.builtin "type.__init__")=some false) (q4:PySem.W.findIn K (.ref CE) "__init__"=some (some (.ref fe_))) (q5:PySem.W.typeIn K (.ref fe_)=some (.type "function"))
  (e_l:K.lookup fe_=some ⟨e_oc,e_od,.func (PySem.W.fnOf "__init__" "Ending.__init__" (dD (aQ (top 12) 0)) (cC (aQ (top 12) 0)) (aM (aQ (top 12) 0)) .none e_kV e_doc e_pm e_an e_cdv e_ct),e_osl⟩) (e_c:PySem.W.codeIn K e_cdv "Ending.__init__"=true) (e_k:PySem.W.keepIn K (.ref fe_)=true)
  (m2:PySem.W.nsIn K mainGlobals "ShutOut"=some (some (.ref C))) (p1:PySem.W.plainGet K C Str.empty=true) (p2:PySem.W.hasDictIn K C=true) (p3:PySem.W.plainOver K C=true) (p4:PySem.W.findIn K (.ref C) "__setattr__"=some (some (.builtin "object.__setattr__")))
  (n0:PySem.W.findIn K (.ref C) "place"=some none) (n1:PySem.W.findIn K (.ref C) "room"=some none) (n2:PySem.W.findIn K (.ref C) "borders"=some none) (k1:PySem.W.makesIn K C=true) (k2:PySem.W.findIn K (.ref C) "__init__"=some (some (.ref fi_))) (k3:PySem.W.isFn K (.ref fi_)=true) (k4:PySem.W.keepIn K (.ref C)=true)
  (i_l:K.lookup fi_=some ⟨i_oc,i_od,.func (PySem.W.fnOf "__init__" "ShutOut.__init__" (dD (aQ (top 14) 0)) (cC (aQ (top 14) 0)) (aM (aQ (top 14) 0)) .none i_kV i_doc i_pm i_an i_cdv i_ct),i_osl⟩) (i_c:PySem.W.codeIn K i_cdv "ShutOut.__init__"=true) (i_k:PySem.W.keepIn K (.ref fi_)=true):lI K mg:=by
 have FE:=fN (st:=(aQ (top 12) 0)) e_l e_c e_k
 have FI:=fN (st:=(aQ (top 14) 0)) i_l i_c i_k
 exact ⟨CE,fe_,_,C,fi_,_,PySem.W.mg_of X G m1,⟨s1,t4 r1 r2 r3 r4,aEP q1 q2 q3 q4 q5,e_k⟩,FE,FE.binds (ps:=["self","place","room"]) (fun _ _ _ _ _ _=>Mc.bn3 fun _ _ _=>rfl),PySem.W.mg_of X G m2,⟨p1,p2,p3,p4⟩,fun f hf=>by
  simp only[List.mem_cons,List.not_mem_nil,or_false] at hf
  rcases hf with rfl|rfl|rfl
  · exact n0
  · exact n1
  · exact n2, ⟨k1, k2, k3, k4⟩, FI, FI.binds (ps := ["self", "place", "room", "borders"]) (fun _ _ _ _ _ _ => Mc.bn4 fun _ _ _ _ => rfl)⟩
theorem yO(X:K.In h)(G:h.Ns mainGlobals mg){CE C:Addr}{g:Value}{fe_:Addr}{e_oc:Value}{e_od e_an:Option Addr}{e_osl:Array (Option Value)}{e_kV e_doc e_pm e_cdv e_ct:Value}{fi_:Addr}{i_oc:Value}{i_od i_an:Option Addr}{i_osl:Array (Option Value)}{i_kV i_doc i_pm i_cdv i_ct:Value}(m1:PySem.W.nsIn K mainGlobals "Ending"=some (some (.ref CE)))(s1:PySem.W.specialIn K (.ref CE) "__getattribute__"=some (some (.builtin "type.__getattribute__")))
  (r1:PySem.W.nsIn K cStatics "thirdparty.any"=some none) (r2:PySem.W.typeIn K (.ref CE)=some (.type "type")) (r3:PySem.W.findIn K (.type "type") "__getattribute__"=some (some (.builtin "type.__getattribute__"))) (r4:PySem.W.subIn K (.type "type") (.type "type")=some true)
  (q1:PySem.W.findIn K (.type "type") "__init__"=some (some (.builtin "type.__init__"))) (q2:PySem.W.specialIn K (.builtin "type.__init__") "__get__"=some (some g)) (q3:PySem.W.takesIn K (.builtin "type.__init__")=some false) (q4:PySem.W.findIn K (.ref CE) "__init__"=some (some (.ref fe_))) (q5:PySem.W.typeIn K (.ref fe_)=some (.type "function"))
  (e_l:K.lookup fe_=some ⟨e_oc,e_od,.func (PySem.W.fnOf "__init__" "Ending.__init__" (dD (aQ (top 12) 0)) (cC (aQ (top 12) 0)) (aM (aQ (top 12) 0)) .none e_kV e_doc e_pm e_an e_cdv e_ct),e_osl⟩) (e_c:PySem.W.codeIn K e_cdv "Ending.__init__"=true) (e_k:PySem.W.keepIn K (.ref fe_)=true)
  (m2:PySem.W.nsIn K mainGlobals "ForEver"=some (some (.ref C))) (p1:PySem.W.plainGet K C Str.empty=true) (p2:PySem.W.hasDictIn K C=true) (p3:PySem.W.plainOver K C=true) (p4:PySem.W.findIn K (.ref C) "__setattr__"=some (some (.builtin "object.__setattr__")))
  (n0:PySem.W.findIn K (.ref C) "place"=some none) (n1:PySem.W.findIn K (.ref C) "room"=some none) (n2:PySem.W.findIn K (.ref C) "first"=some none) (n3:PySem.W.findIn K (.ref C) "again"=some none) (k1:PySem.W.makesIn K C=true) (k2:PySem.W.findIn K (.ref C) "__init__"=some (some (.ref fi_))) (k3:PySem.W.isFn K (.ref fi_)=true) (k4:PySem.W.keepIn K (.ref C)=true)
  (i_l:K.lookup fi_=some ⟨i_oc,i_od,.func (PySem.W.fnOf "__init__" "ForEver.__init__" (dD (aQ (top 15) 0)) (cC (aQ (top 15) 0)) (aM (aQ (top 15) 0)) .none i_kV i_doc i_pm i_an i_cdv i_ct),i_osl⟩) (i_c:PySem.W.codeIn K i_cdv "ForEver.__init__"=true) (i_k:PySem.W.keepIn K (.ref fi_)=true):lJ K mg:=by
 have FE:=fN (st:=(aQ (top 12) 0)) e_l e_c e_k
 have FI:=fN (st:=(aQ (top 15) 0)) i_l i_c i_k
 exact ⟨CE,fe_,_,C,fi_,_,PySem.W.mg_of X G m1,⟨s1,t4 r1 r2 r3 r4,aEP q1 q2 q3 q4 q5,e_k⟩,FE,FE.binds (ps:=["self","place","room"]) (fun _ _ _ _ _ _=>Mc.bn3 fun _ _ _=>rfl),PySem.W.mg_of X G m2,⟨p1,p2,p3,p4⟩,fun f hf=>by
  simp only[List.mem_cons,List.not_mem_nil,or_false] at hf
  rcases hf with rfl|rfl|rfl|rfl
  · exact n0
  · exact n1
  · exact n2
  · exact n3, ⟨k1, k2, k3, k4⟩, FI, FI.binds (ps := ["self", "place", "room", "first", "again"]) (fun _ _ _ _ _ _ => Mc.bn5 fun _ _ _ _ _ => rfl)⟩
theorem sN(X:K.In h)(G:h.Ns mainGlobals mg){C:Addr}{fm_:Addr}{m_oc:Value}{m_od m_an:Option Addr}{m_osl:Array (Option Value)}{m_kV m_doc m_pm m_cdv m_ct:Value}(m2:PySem.W.nsIn K mainGlobals "LetBy"=some (some (.ref C)))(p1:PySem.W.plainGet K C Str.empty=true)(p2:PySem.W.hasDictIn K C=true)(p3:PySem.W.plainOver K C=true)(p4:PySem.W.findIn K (.ref C) "__setattr__"=some (some (.builtin "object.__setattr__")))
  (k2:PySem.W.findIn K (.ref C) "stops"=some (some (.ref fm_))) (k3:PySem.W.isFn K (.ref fm_)=true) (m_l:K.lookup fm_=some ⟨m_oc,m_od,.func (PySem.W.fnOf "stops" "LetBy.stops" (dD (aQ (top 13) 2)) (cC (aQ (top 13) 2)) (aM (aQ (top 13) 2)) .none m_kV m_doc m_pm m_an m_cdv m_ct),m_osl⟩) (m_c:PySem.W.codeIn K m_cdv "LetBy.stops"=true) (m_k:PySem.W.keepIn K (.ref fm_)=true):kM K mg:=by
 have FI:=fN (st:=(aQ (top 13) 2)) m_l m_c m_k
 exact ⟨C,fm_,_,PySem.W.mg_of X G m2,⟨p1,p2,p3,p4⟩,⟨k2,k3,m_k⟩,FI,FI.binds (ps:=["self"]) (fun _ _ _ _ _ _=>Mc.bn1 fun _=>rfl)⟩
theorem sO(X:K.In h)(G:h.Ns mainGlobals mg){C:Addr}{fm_:Addr}{m_oc:Value}{m_od m_an:Option Addr}{m_osl:Array (Option Value)}{m_kV m_doc m_pm m_cdv m_ct:Value}(m2:PySem.W.nsIn K mainGlobals "LetBy"=some (some (.ref C)))(p1:PySem.W.plainGet K C Str.empty=true)(p2:PySem.W.hasDictIn K C=true)(p3:PySem.W.plainOver K C=true)(p4:PySem.W.findIn K (.ref C) "__setattr__"=some (some (.builtin "object.__setattr__")))
  (k2:PySem.W.findIn K (.ref C) "paper"=some (some (.ref fm_))) (k3:PySem.W.isFn K (.ref fm_)=true) (m_l:K.lookup fm_=some ⟨m_oc,m_od,.func (PySem.W.fnOf "paper" "LetBy.paper" (dD (aQ (top 13) 3)) (cC (aQ (top 13) 3)) (aM (aQ (top 13) 3)) .none m_kV m_doc m_pm m_an m_cdv m_ct),m_osl⟩) (m_c:PySem.W.codeIn K m_cdv "LetBy.paper"=true) (m_k:PySem.W.keepIn K (.ref fm_)=true):kN K mg:=by
 have FI:=fN (st:=(aQ (top 13) 3)) m_l m_c m_k
 exact ⟨C,fm_,_,PySem.W.mg_of X G m2,⟨p1,p2,p3,p4⟩,⟨k2,k3,m_k⟩,FI,FI.binds (ps:=["self"]) (fun _ _ _ _ _ _=>Mc.bn1 fun _=>rfl)⟩
theorem pX(X:K.In h)(G:h.Ns mainGlobals mg){C:Addr}{fm_:Addr}{m_oc:Value}{m_od m_an:Option Addr}{m_osl:Array (Option Value)}{m_kV m_doc m_pm m_cdv m_ct:Value}(m2:PySem.W.nsIn K mainGlobals "ShutOut"=some (some (.ref C)))(p1:PySem.W.plainGet K C Str.empty=true)(p2:PySem.W.hasDictIn K C=true)(p3:PySem.W.plainOver K C=true)(p4:PySem.W.findIn K (.ref C) "__setattr__"=some (some (.builtin "object.__setattr__")))
  (k2:PySem.W.findIn K (.ref C) "stops"=some (some (.ref fm_))) (k3:PySem.W.isFn K (.ref fm_)=true) (m_l:K.lookup fm_=some ⟨m_oc,m_od,.func (PySem.W.fnOf "stops" "ShutOut.stops" (dD (aQ (top 14) 2)) (cC (aQ (top 14) 2)) (aM (aQ (top 14) 2)) .none m_kV m_doc m_pm m_an m_cdv m_ct),m_osl⟩) (m_c:PySem.W.codeIn K m_cdv "ShutOut.stops"=true) (m_k:PySem.W.keepIn K (.ref fm_)=true):jD K mg:=by
 have FI:=fN (st:=(aQ (top 14) 2)) m_l m_c m_k
 exact ⟨C,fm_,_,PySem.W.mg_of X G m2,⟨p1,p2,p3,p4⟩,⟨k2,k3,m_k⟩,FI,FI.binds (ps:=["self"]) (fun _ _ _ _ _ _=>Mc.bn1 fun _=>rfl)⟩
theorem pY(X:K.In h)(G:h.Ns mainGlobals mg){C:Addr}{fm_:Addr}{m_oc:Value}{m_od m_an:Option Addr}{m_osl:Array (Option Value)}{m_kV m_doc m_pm m_cdv m_ct:Value}(m2:PySem.W.nsIn K mainGlobals "ShutOut"=some (some (.ref C)))(p1:PySem.W.plainGet K C Str.empty=true)(p2:PySem.W.hasDictIn K C=true)(p3:PySem.W.plainOver K C=true)(p4:PySem.W.findIn K (.ref C) "__setattr__"=some (some (.builtin "object.__setattr__")))
  (k2:PySem.W.findIn K (.ref C) "paper"=some (some (.ref fm_))) (k3:PySem.W.isFn K (.ref fm_)=true) (m_l:K.lookup fm_=some ⟨m_oc,m_od,.func (PySem.W.fnOf "paper" "ShutOut.paper" (dD (aQ (top 14) 3)) (cC (aQ (top 14) 3)) (aM (aQ (top 14) 3)) .none m_kV m_doc m_pm m_an m_cdv m_ct),m_osl⟩) (m_c:PySem.W.codeIn K m_cdv "ShutOut.paper"=true) (m_k:PySem.W.keepIn K (.ref fm_)=true):jE K mg:=by
 have FI:=fN (st:=(aQ (top 14) 3)) m_l m_c m_k
 exact ⟨C,fm_,_,PySem.W.mg_of X G m2,⟨p1,p2,p3,p4⟩,⟨k2,k3,m_k⟩,FI,FI.binds (ps:=["self"]) (fun _ _ _ _ _ _=>Mc.bn1 fun _=>rfl)⟩
theorem pZ(X:K.In h)(G:h.Ns mainGlobals mg){C:Addr}{fm_:Addr}{m_oc:Value}{m_od m_an:Option Addr}{m_osl:Array (Option Value)}{m_kV m_doc m_pm m_cdv m_ct:Value}(m2:PySem.W.nsIn K mainGlobals "ForEver"=some (some (.ref C)))(p1:PySem.W.plainGet K C Str.empty=true)(p2:PySem.W.hasDictIn K C=true)(p3:PySem.W.plainOver K C=true)(p4:PySem.W.findIn K (.ref C) "__setattr__"=some (some (.builtin "object.__setattr__")))
  (k2:PySem.W.findIn K (.ref C) "stops"=some (some (.ref fm_))) (k3:PySem.W.isFn K (.ref fm_)=true) (m_l:K.lookup fm_=some ⟨m_oc,m_od,.func (PySem.W.fnOf "stops" "ForEver.stops" (dD (aQ (top 15) 2)) (cC (aQ (top 15) 2)) (aM (aQ (top 15) 2)) .none m_kV m_doc m_pm m_an m_cdv m_ct),m_osl⟩) (m_c:PySem.W.codeIn K m_cdv "ForEver.stops"=true) (m_k:PySem.W.keepIn K (.ref fm_)=true):jF K mg:=by
 have FI:=fN (st:=(aQ (top 15) 2)) m_l m_c m_k
 exact ⟨C,fm_,_,PySem.W.mg_of X G m2,⟨p1,p2,p3,p4⟩,⟨k2,k3,m_k⟩,FI,FI.binds (ps:=["self"]) (fun _ _ _ _ _ _=>Mc.bn1 fun _=>rfl)⟩
theorem p5(X:K.In h)(G:h.Ns mainGlobals mg){C:Addr}{fm_:Addr}{m_oc:Value}{m_od m_an:Option Addr}{m_osl:Array (Option Value)}{m_kV m_doc m_pm m_cdv m_ct:Value}(m2:PySem.W.nsIn K mainGlobals "ForEver"=some (some (.ref C)))(p1:PySem.W.plainGet K C Str.empty=true)(p2:PySem.W.hasDictIn K C=true)(p3:PySem.W.plainOver K C=true)(p4:PySem.W.findIn K (.ref C) "__setattr__"=some (some (.builtin "object.__setattr__")))
  (k2:PySem.W.findIn K (.ref C) "paper"=some (some (.ref fm_))) (k3:PySem.W.isFn K (.ref fm_)=true) (m_l:K.lookup fm_=some ⟨m_oc,m_od,.func (PySem.W.fnOf "paper" "ForEver.paper" (dD (aQ (top 15) 3)) (cC (aQ (top 15) 3)) (aM (aQ (top 15) 3)) .none m_kV m_doc m_pm m_an m_cdv m_ct),m_osl⟩) (m_c:PySem.W.codeIn K m_cdv "ForEver.paper"=true) (m_k:PySem.W.keepIn K (.ref fm_)=true):jG K mg:=by
 have FI:=fN (st:=(aQ (top 15) 3)) m_l m_c m_k
 exact ⟨C,fm_,_,PySem.W.mg_of X G m2,⟨p1,p2,p3,p4⟩,⟨k2,k3,m_k⟩,FI,FI.binds (ps:=["self"]) (fun _ _ _ _ _ _=>Mc.bn1 fun _=>rfl)⟩
theorem lK{c x:Str}(X:K.In h)(G:h.Ns mainGlobals mg){C:Addr}(m2:PySem.W.nsIn K mainGlobals c=some (some (.ref C)))(p1:PySem.W.plainGet K C Str.empty=true)(p2:PySem.W.hasDictIn K C=true)(p3:PySem.W.plainOver K C=true)(p4:PySem.W.findIn K (.ref C) "__setattr__"=some (some (.builtin "object.__setattr__")))(n:PySem.W.findIn K (.ref C) x=some none):∃ C,mg c=some (.ref C)/\Cls K C/\dG K C x:=⟨C,PySem.W.mg_of X G m2,⟨p1,p2,p3,p4⟩,n⟩
theorem aOC{fa f:Addr}{oc:Value}{od an:Option Addr}{osl:Array (Option Value)}{kV doc pm cdv ct:Value}(X:K.In h)(G:h.Ns mainGlobals mg)(hmg:mg "law"=some (.ref fa))(a:PySem.W.nsIn K mainGlobals "law"=some (some (.ref f)))(l:K.lookup f=some ⟨oc,od,.func (PySem.W.fnOf "law" "law" (dD (top 43)) (cC (top 43)) (aM (top 43)) .none kV doc pm an cdv ct),osl⟩)
  (c:PySem.W.codeIn K cdv "law"=true) (k:PySem.W.keepIn K (.ref f)=true):∃ fd,Fun K "law" "law" (top 43) fa fd/\∀ (s:Shared) (u:Value),BindsTo s fd ⟨[u],[]⟩ [("_law_script",u)]:=by
 have e:=hmg.symm.trans (PySem.W.mg_of X G a)
 cases e
 exact ⟨_,fN (st:=top 43) l c k,fun s u=>.of_eq rfl⟩
end
end Mc
open PySem PySem.W PyProof.Rows
set_option maxRecDepth 100000 in
set_option maxHeartbeats 0 in
theorem PySem.Challenge.cw_striproam_k08_papers_spoilt_holds : PySem.Challenge.rw_striproam_k08_papers_spoilt.Holds := by
 w_on;o_law;k_head;(case hw=>w_witness2)
 k_fill
 refine Fl.aM9 (l:=PySem.Challenge.rw_striproam_k08_papers_spoilt) (k:=8) (x:="_law_script") rfl rfl ⟨rfl,by decide,by decide⟩ (fun w h Y=>PySem.W.kIn_of Y) ?F
 case F=>
  intro w mg fa h KX G hmg
  have D7:L2.DefAt (L2.KOf KX) mg "signs_of" (Mc.top 7) ["machine"]:=by dsimp only[L2.KOf];refine' Mc.b8 KX G ?a ?l ?c ?k ?b;(case a=>k_is);(case l=>k_is);(case c=>k_is);(case k=>k_is);(case b=>exact fun _ _ _ _ _ _=>Mc.bn1 fun _=>rfl)
  have D8:L2.DefAt (L2.KOf KX) mg "checked_by" (Mc.top 8) ["signs","strip"]:=by dsimp only[L2.KOf];refine' Mc.b8 KX G ?a ?l ?c ?k ?b;(case a=>k_is);(case l=>k_is);(case c=>k_is);(case k=>k_is);(case b=>exact fun _ _ _ _ _ _=>Mc.bn2 fun _ _=>rfl)
  have D9:L2.DefAt (L2.KOf KX) mg "checked" (Mc.top 9) ["machine","strip"]:=by dsimp only[L2.KOf];refine' Mc.b8 KX G ?a ?l ?c ?k ?b;(case a=>k_is);(case l=>k_is);(case c=>k_is);(case k=>k_is);(case b=>exact fun _ _ _ _ _ _=>Mc.bn2 fun _ _=>rfl)
  have D16:L2.DefAt (L2.KOf KX) mg "cell_at" (Mc.top 16) ["machine","strip","stand"]:=by dsimp only[L2.KOf];refine' Mc.b8 KX G ?a ?l ?c ?k ?b;(case a=>k_is);(case l=>k_is);(case c=>k_is);(case k=>k_is);(case b=>exact fun _ _ _ _ _ _=>Mc.bn3 fun _ _ _=>rfl)
  have D17:L2.DefAt (L2.KOf KX) mg "path" (Mc.top 17) ["machine","strip"]:=by dsimp only[L2.KOf];refine' Mc.b8 KX G ?a ?l ?c ?k ?b;(case a=>k_is);(case l=>k_is);(case c=>k_is);(case k=>k_is);(case b=>exact fun _ _ _ _ _ _=>Mc.bn2 fun _ _=>rfl)
  have D18:L2.DefAt (L2.KOf KX) mg "borders_of" (Mc.top 18) ["stands","strip"]:=by dsimp only[L2.KOf];refine' Mc.b8 KX G ?a ?l ?c ?k ?b;(case a=>k_is);(case l=>k_is);(case c=>k_is);(case k=>k_is);(case b=>exact fun _ _ _ _ _ _=>Mc.bn2 fun _ _=>rfl)
  have D19:L2.DefAt (L2.KOf KX) mg "walk" (Mc.top 19) ["machine","strip"]:=by dsimp only[L2.KOf];refine' Mc.b8 KX G ?a ?l ?c ?k ?b;(case a=>k_is);(case l=>k_is);(case c=>k_is);(case k=>k_is);(case b=>exact fun _ _ _ _ _ _=>Mc.bn2 fun _ _=>rfl)
  have D21:L2.DefAt (L2.KOf KX) mg "stand_at" (Mc.top 21) ["stands","ending","number"]:=by dsimp only[L2.KOf];refine' Mc.b8 KX G ?a ?l ?c ?k ?b;(case a=>k_is);(case l=>k_is);(case c=>k_is);(case k=>k_is);(case b=>exact fun _ _ _ _ _ _=>Mc.bn3 fun _ _ _=>rfl)
  have D22:L2.DefAt (L2.KOf KX) mg "goes_round" (Mc.top 22) ["machine","strip","ending","paper"]:=by dsimp only[L2.KOf];refine' Mc.b8 KX G ?a ?l ?c ?k ?b;(case a=>k_is);(case l=>k_is);(case c=>k_is);(case k=>k_is);(case b=>exact fun _ _ _ _ _ _=>Mc.bn4 fun _ _ _ _=>rfl)
  have D23:L2.DefAt (L2.KOf KX) mg "holds" (Mc.top 23) ["machine","strip","paper"]:=by dsimp only[L2.KOf];refine' Mc.b8 KX G ?a ?l ?c ?k ?b;(case a=>k_is);(case l=>k_is);(case c=>k_is);(case k=>k_is);(case b=>exact fun _ _ _ _ _ _=>Mc.bn3 fun _ _ _=>rfl)
  have D25:L2.DefAt (L2.KOf KX) mg "_law_truth" (Mc.top 25) ["_law_found","_law_due"]:=by dsimp only[L2.KOf];refine' Mc.b8 KX G ?a ?l ?c ?k ?b;(case a=>k_is);(case l=>k_is);(case c=>k_is);(case k=>k_is);(case b=>exact fun _ _ _ _ _ _=>Mc.bn2 fun _ _=>rfl)
  have D26:L2.DefAt (L2.KOf KX) mg "_law_cell" (Mc.top 26) ["_law_script","_law_k"]:=by dsimp only[L2.KOf];refine' Mc.b8 KX G ?a ?l ?c ?k ?b;(case a=>k_is);(case l=>k_is);(case c=>k_is);(case k=>k_is);(case b=>exact fun _ _ _ _ _ _=>Mc.bn2 fun _ _=>rfl)
  have D27:L2.DefAt (L2.KOf KX) mg "_law_end" (Mc.top 27) ["_law_number","_law_rooms"]:=by dsimp only[L2.KOf];refine' Mc.b8 KX G ?a ?l ?c ?k ?b;(case a=>k_is);(case l=>k_is);(case c=>k_is);(case k=>k_is);(case b=>exact fun _ _ _ _ _ _=>Mc.bn2 fun _ _=>rfl)
  have D28:L2.DefAt (L2.KOf KX) mg "_law_digit_row" (Mc.top 28) ["_law_number","_law_rooms","_law_signs"]:=by dsimp only[L2.KOf];refine' Mc.b8 KX G ?a ?l ?c ?k ?b;(case a=>k_is);(case l=>k_is);(case c=>k_is);(case k=>k_is);(case b=>exact fun _ _ _ _ _ _=>Mc.bn3 fun _ _ _=>rfl)
  have D29:L2.DefAt (L2.KOf KX) mg "_law_mixed_row" (Mc.top 29) ["_law_number","_law_rooms","_law_signs"]:=by dsimp only[L2.KOf];refine' Mc.b8 KX G ?a ?l ?c ?k ?b;(case a=>k_is);(case l=>k_is);(case c=>k_is);(case k=>k_is);(case b=>exact fun _ _ _ _ _ _=>Mc.bn3 fun _ _ _=>rfl)
  have D30:L2.DefAt (L2.KOf KX) mg "_law_machine" (Mc.top 30) ["_law_script","_law_at_here","_law_rooms","_law_signs"]:=by dsimp only[L2.KOf];refine' Mc.b8 KX G ?a ?l ?c ?k ?b;(case a=>k_is);(case l=>k_is);(case c=>k_is);(case k=>k_is);(case b=>exact fun _ _ _ _ _ _=>Mc.bn4 fun _ _ _ _=>rfl)
  have D31:L2.DefAt (L2.KOf KX) mg "_law_strip" (Mc.top 31) ["_law_script","_law_at_here","_law_size","_law_signs"]:=by dsimp only[L2.KOf];refine' Mc.b8 KX G ?a ?l ?c ?k ?b;(case a=>k_is);(case l=>k_is);(case c=>k_is);(case k=>k_is);(case b=>exact fun _ _ _ _ _ _=>Mc.bn4 fun _ _ _ _=>rfl)
  have D32:L2.DefAt (L2.KOf KX) mg "_law_step" (Mc.top 32) ["_law_machine_here","_law_strip_here","_law_stand"]:=by dsimp only[L2.KOf];refine' Mc.b8 KX G ?a ?l ?c ?k ?b;(case a=>k_is);(case l=>k_is);(case c=>k_is);(case k=>k_is);(case b=>exact fun _ _ _ _ _ _=>Mc.bn3 fun _ _ _=>rfl)
  have D33:L2.DefAt (L2.KOf KX) mg "_law_stands" (Mc.top 33) ["_law_machine_here","_law_strip_here"]:=by dsimp only[L2.KOf];refine' Mc.b8 KX G ?a ?l ?c ?k ?b;(case a=>k_is);(case l=>k_is);(case c=>k_is);(case k=>k_is);(case b=>exact fun _ _ _ _ _ _=>Mc.bn2 fun _ _=>rfl)
  have D34:L2.DefAt (L2.KOf KX) mg "_law_says" (Mc.top 34) ["_law_machine_here","_law_strip_here"]:=by dsimp only[L2.KOf];refine' Mc.b8 KX G ?a ?l ?c ?k ?b;(case a=>k_is);(case l=>k_is);(case c=>k_is);(case k=>k_is);(case b=>exact fun _ _ _ _ _ _=>Mc.bn2 fun _ _=>rfl)
  have D35:L2.DefAt (L2.KOf KX) mg "_law_borders" (Mc.top 35) ["_law_stands_here","_law_many"]:=by dsimp only[L2.KOf];refine' Mc.b8 KX G ?a ?l ?c ?k ?b;(case a=>k_is);(case l=>k_is);(case c=>k_is);(case k=>k_is);(case b=>exact fun _ _ _ _ _ _=>Mc.bn2 fun _ _=>rfl)
  have D36:L2.DefAt (L2.KOf KX) mg "_law_paper" (Mc.top 36) ["_law_machine_here","_law_strip_here"]:=by dsimp only[L2.KOf];refine' Mc.b8 KX G ?a ?l ?c ?k ?b;(case a=>k_is);(case l=>k_is);(case c=>k_is);(case k=>k_is);(case b=>exact fun _ _ _ _ _ _=>Mc.bn2 fun _ _=>rfl)
  have D37:L2.DefAt (L2.KOf KX) mg "_law_drawn" (Mc.top 37) ["_law_script"]:=by dsimp only[L2.KOf];refine' Mc.b8 KX G ?a ?l ?c ?k ?b;(case a=>k_is);(case l=>k_is);(case c=>k_is);(case k=>k_is);(case b=>exact fun _ _ _ _ _ _=>Mc.bn1 fun _=>rfl)
  have D38:L2.DefAt (L2.KOf KX) mg "_law_at" (Mc.top 38) ["_law_borders_here","_law_cell_here"]:=by dsimp only[L2.KOf];refine' Mc.b8 KX G ?a ?l ?c ?k ?b;(case a=>k_is);(case l=>k_is);(case c=>k_is);(case k=>k_is);(case b=>exact fun _ _ _ _ _ _=>Mc.bn2 fun _ _=>rfl)
  have D39:L2.DefAt (L2.KOf KX) mg "_law_room_spoilt" (Mc.top 39) ["_law_borders_here","_law_at_here","_law_cell_here","_law_rooms"]:=by dsimp only[L2.KOf];refine' Mc.b8 KX G ?a ?l ?c ?k ?b;(case a=>k_is);(case l=>k_is);(case c=>k_is);(case k=>k_is);(case b=>exact fun _ _ _ _ _ _=>Mc.bn4 fun _ _ _ _=>rfl)
  have D40:L2.DefAt (L2.KOf KX) mg "_law_two_spoilt" (Mc.top 40) ["_law_borders_here","_law_at_here","_law_cell_here","_law_rooms"]:=by dsimp only[L2.KOf];refine' Mc.b8 KX G ?a ?l ?c ?k ?b;(case a=>k_is);(case l=>k_is);(case c=>k_is);(case k=>k_is);(case b=>exact fun _ _ _ _ _ _=>Mc.bn4 fun _ _ _ _=>rfl)
  have D41:L2.DefAt (L2.KOf KX) mg "_law_exchanged" (Mc.top 41) ["_law_borders_here","_law_at_here","_law_cell_here"]:=by dsimp only[L2.KOf];refine' Mc.b8 KX G ?a ?l ?c ?k ?b;(case a=>k_is);(case l=>k_is);(case c=>k_is);(case k=>k_is);(case b=>exact fun _ _ _ _ _ _=>Mc.bn3 fun _ _ _=>rfl)
  have D42:L2.DefAt (L2.KOf KX) mg "_law_spoilt" (Mc.top 42) ["_law_word","_law_borders_here","_law_cell_here","_law_rooms"]:=by dsimp only[L2.KOf];refine' Mc.b8 KX G ?a ?l ?c ?k ?b;(case a=>k_is);(case l=>k_is);(case c=>k_is);(case k=>k_is);(case b=>exact fun _ _ _ _ _ _=>Mc.bn4 fun _ _ _ _=>rfl)
  have T:Mc.Txt w (L2.KOf KX) mg:=by
   dsimp only[L2.KOf]
   refine' Mc.aOB KX G ?z_abs ?z_bool ?z_enumerate ?z_int ?z_isinstance ?z_len ?z_list ?z_min ?z_range ?z_str ?z_tuple ?z_zip ?s_BEGIN (Mc.aMU ?m_BEGIN) ?s_SIGNS ?s_STOPS (Mc.aMT ?m_STOPS)
   (case z_abs=>k_is);(case z_bool=>k_is);(case z_enumerate=>k_is);(case z_int=>k_is);(case z_isinstance=>k_is);(case z_len=>k_is);(case z_list=>k_is);(case z_min=>k_is);(case z_range=>k_is);(case z_str=>k_is);(case z_tuple=>k_is);(case z_zip=>k_is);(case s_BEGIN=>k_is);(case m_BEGIN=>k_is);(case s_SIGNS=>k_is);(case s_STOPS=>k_is);(case m_STOPS=>k_is)
  have E_NoStrip:Mc.kL (L2.KOf KX) mg:=by
   dsimp only[L2.KOf]
   refine' Mc.yM KX G ?m ?e1 ?e2 ?e3 ?e4 ?e5 ?e6 ?e7 ?e8 ?p1 ?i1 ?i2 ?i3 ?i4 ?i5
   (case m=>k_is)
   (case e1=>k_is)
   (case e2=>k_is);(case e3=>k_is);(case e4=>k_is);(case e5=>k_is);(case e6=>k_is);(case e7=>k_is);(case e8=>k_is)
   (case p1=>k_is);(case i1=>k_is);(case i2=>k_is);(case i3=>k_is);(case i4=>k_is);(case i5=>k_is)
  have Ob_LetBy:Mc.n6 (L2.KOf KX) mg:=by
   dsimp only[L2.KOf]
   refine' Mc.aB1 KX G ?m1 ?s1 ?r1 ?r2 ?r3 ?r4 ?q1 ?q2 ?q3 ?q4 ?q5 ?e_l ?e_c ?e_k ?m2 ?p1 ?p2 ?p3 ?p4 ?n0 ?n1 ?n2 ?k1 ?k2 ?k3 ?k4 ?i_l ?i_c ?i_k
   (case m1=>k_is);(case m2=>k_is);(case q4=>k_is);(case k2=>k_is);(case e_l=>k_is);(case i_l=>k_is);(case s1=>k_is);(case r1=>k_is);(case r2=>k_is);(case r3=>k_is);(case r4=>k_is);(case q1=>k_is);(case q2=>k_is);(case q3=>k_is);(case q5=>k_is);(case e_c=>k_is);(case e_k=>k_is);(case p1=>k_is);(case p2=>k_is);(case p3=>k_is);(case p4=>k_is);(case n0=>k_is);(case n1=>k_is);(case n2=>k_is);(case k1=>k_is);(case k3=>k_is);(case k4=>k_is);(case i_c=>k_is);(case i_k=>k_is)
  have Ob_ShutOut:Mc.lI (L2.KOf KX) mg:=by
   dsimp only[L2.KOf]
   refine' Mc.yN KX G ?m1 ?s1 ?r1 ?r2 ?r3 ?r4 ?q1 ?q2 ?q3 ?q4 ?q5 ?e_l ?e_c ?e_k ?m2 ?p1 ?p2 ?p3 ?p4 ?n0 ?n1 ?n2 ?k1 ?k2 ?k3 ?k4 ?i_l ?i_c ?i_k
   (case m1=>k_is);(case m2=>k_is);(case q4=>k_is);(case k2=>k_is);(case e_l=>k_is);(case i_l=>k_is);(case s1=>k_is);(case r1=>k_is);(case r2=>k_is);(case r3=>k_is);(case r4=>k_is);(case q1=>k_is);(case q2=>k_is);(case q3=>k_is);(case q5=>k_is);(case e_c=>k_is);(case e_k=>k_is);(case p1=>k_is);(case p2=>k_is);(case p3=>k_is);(case p4=>k_is);(case n0=>k_is);(case n1=>k_is);(case n2=>k_is);(case k1=>k_is);(case k3=>k_is);(case k4=>k_is);(case i_c=>k_is);(case i_k=>k_is)
  have Ob_ForEver:Mc.lJ (L2.KOf KX) mg:=by
   dsimp only[L2.KOf]
   refine' Mc.yO KX G ?m1 ?s1 ?r1 ?r2 ?r3 ?r4 ?q1 ?q2 ?q3 ?q4 ?q5 ?e_l ?e_c ?e_k ?m2 ?p1 ?p2 ?p3 ?p4 ?n0 ?n1 ?n2 ?n3 ?k1 ?k2 ?k3 ?k4 ?i_l ?i_c ?i_k
   (case m1=>k_is);(case m2=>k_is);(case q4=>k_is);(case k2=>k_is);(case e_l=>k_is);(case i_l=>k_is);(case s1=>k_is);(case r1=>k_is);(case r2=>k_is);(case r3=>k_is);(case r4=>k_is);(case q1=>k_is);(case q2=>k_is);(case q3=>k_is);(case q5=>k_is);(case e_c=>k_is);(case e_k=>k_is);(case p1=>k_is);(case p2=>k_is);(case p3=>k_is);(case p4=>k_is);(case n0=>k_is);(case n1=>k_is);(case n2=>k_is);(case n3=>k_is);(case k1=>k_is);(case k3=>k_is);(case k4=>k_is);(case i_c=>k_is);(case i_k=>k_is)
  have Fo_ForEver_first:∃ C,mg "ForEver"=some (.ref C)/\L2.Cls (L2.KOf KX) C/\L2.dG (L2.KOf KX) C "first":=by
   dsimp only[L2.KOf]
   refine' Mc.lK KX G ?m2 ?p1 ?p2 ?p3 ?p4 ?n
   (case m2=>k_is);(case p1=>k_is);(case p2=>k_is);(case p3=>k_is);(case p4=>k_is);(case n=>k_is)
  have fo_first:Fl.g9 (L2.KOf KX) mg ["ForEver"] "first":=by
   intro nm hn
   simp only[List.mem_cons,List.not_mem_nil,or_false] at hn
   rcases hn with rfl
   · exact Fo_ForEver_first
  have Fo_ForEver_again:∃ C,mg "ForEver"=some (.ref C)/\L2.Cls (L2.KOf KX) C/\L2.dG (L2.KOf KX) C "again":=by
   dsimp only[L2.KOf]
   refine' Mc.lK KX G ?m2 ?p1 ?p2 ?p3 ?p4 ?n
   (case m2=>k_is);(case p1=>k_is);(case p2=>k_is);(case p3=>k_is);(case p4=>k_is);(case n=>k_is)
  have fo_again:Fl.g9 (L2.KOf KX) mg ["ForEver"] "again":=by
   intro nm hn
   simp only[List.mem_cons,List.not_mem_nil,or_false] at hn
   rcases hn with rfl
   · exact Fo_ForEver_again
  have Fo_LetBy_borders:∃ C,mg "LetBy"=some (.ref C)/\L2.Cls (L2.KOf KX) C/\L2.dG (L2.KOf KX) C "borders":=by
   dsimp only[L2.KOf]
   refine' Mc.lK KX G ?m2 ?p1 ?p2 ?p3 ?p4 ?n
   (case m2=>k_is);(case p1=>k_is);(case p2=>k_is);(case p3=>k_is);(case p4=>k_is);(case n=>k_is)
  have Fo_ShutOut_borders:∃ C,mg "ShutOut"=some (.ref C)/\L2.Cls (L2.KOf KX) C/\L2.dG (L2.KOf KX) C "borders":=by
   dsimp only[L2.KOf]
   refine' Mc.lK KX G ?m2 ?p1 ?p2 ?p3 ?p4 ?n
   (case m2=>k_is);(case p1=>k_is);(case p2=>k_is);(case p3=>k_is);(case p4=>k_is);(case n=>k_is)
  have fo_borders:Fl.g9 (L2.KOf KX) mg ["LetBy","ShutOut"] "borders":=by
   intro nm hn
   simp only[List.mem_cons,List.not_mem_nil,or_false] at hn
   rcases hn with rfl|rfl
   · exact Fo_LetBy_borders
   · exact Fo_ShutOut_borders
  have Fo_LetBy_room:∃ C,mg "LetBy"=some (.ref C)/\L2.Cls (L2.KOf KX) C/\L2.dG (L2.KOf KX) C "room":=by
   dsimp only[L2.KOf]
   refine' Mc.lK KX G ?m2 ?p1 ?p2 ?p3 ?p4 ?n
   (case m2=>k_is);(case p1=>k_is);(case p2=>k_is);(case p3=>k_is);(case p4=>k_is);(case n=>k_is)
  have Fo_ShutOut_room:∃ C,mg "ShutOut"=some (.ref C)/\L2.Cls (L2.KOf KX) C/\L2.dG (L2.KOf KX) C "room":=by
   dsimp only[L2.KOf]
   refine' Mc.lK KX G ?m2 ?p1 ?p2 ?p3 ?p4 ?n
   (case m2=>k_is);(case p1=>k_is);(case p2=>k_is);(case p3=>k_is);(case p4=>k_is);(case n=>k_is)
  have Fo_ForEver_room:∃ C,mg "ForEver"=some (.ref C)/\L2.Cls (L2.KOf KX) C/\L2.dG (L2.KOf KX) C "room":=by
   dsimp only[L2.KOf]
   refine' Mc.lK KX G ?m2 ?p1 ?p2 ?p3 ?p4 ?n
   (case m2=>k_is);(case p1=>k_is);(case p2=>k_is);(case p3=>k_is);(case p4=>k_is);(case n=>k_is)
  have fo_room:Fl.g9 (L2.KOf KX) mg ["LetBy","ShutOut","ForEver"] "room":=by
   intro nm hn
   simp only[List.mem_cons,List.not_mem_nil,or_false] at hn
   rcases hn with rfl|rfl|rfl
   · exact Fo_LetBy_room
   · exact Fo_ShutOut_room
   · exact Fo_ForEver_room
  have Fo_LetBy_place:∃ C,mg "LetBy"=some (.ref C)/\L2.Cls (L2.KOf KX) C/\L2.dG (L2.KOf KX) C "place":=by
   dsimp only[L2.KOf]
   refine' Mc.lK KX G ?m2 ?p1 ?p2 ?p3 ?p4 ?n
   (case m2=>k_is);(case p1=>k_is);(case p2=>k_is);(case p3=>k_is);(case p4=>k_is);(case n=>k_is)
  have Fo_ShutOut_place:∃ C,mg "ShutOut"=some (.ref C)/\L2.Cls (L2.KOf KX) C/\L2.dG (L2.KOf KX) C "place":=by
   dsimp only[L2.KOf]
   refine' Mc.lK KX G ?m2 ?p1 ?p2 ?p3 ?p4 ?n
   (case m2=>k_is);(case p1=>k_is);(case p2=>k_is);(case p3=>k_is);(case p4=>k_is);(case n=>k_is)
  have Fo_ForEver_place:∃ C,mg "ForEver"=some (.ref C)/\L2.Cls (L2.KOf KX) C/\L2.dG (L2.KOf KX) C "place":=by
   dsimp only[L2.KOf]
   refine' Mc.lK KX G ?m2 ?p1 ?p2 ?p3 ?p4 ?n
   (case m2=>k_is);(case p1=>k_is);(case p2=>k_is);(case p3=>k_is);(case p4=>k_is);(case n=>k_is)
  have fo_place:Fl.g9 (L2.KOf KX) mg ["LetBy","ShutOut","ForEver"] "place":=by
   intro nm hn
   simp only[List.mem_cons,List.not_mem_nil,or_false] at hn
   rcases hn with rfl|rfl|rfl
   · exact Fo_LetBy_place
   · exact Fo_ShutOut_place
   · exact Fo_ForEver_place
  have Mt_LetBy_stops:Mc.kM (L2.KOf KX) mg:=by
   dsimp only[L2.KOf]
   refine' Mc.sN KX G ?m2 ?p1 ?p2 ?p3 ?p4 ?k2 ?k3 ?m_l ?m_c ?m_k
   (case m2=>k_is);(case k2=>k_is);(case m_l=>k_is);(case p1=>k_is);(case p2=>k_is);(case p3=>k_is);(case p4=>k_is);(case k3=>k_is);(case m_c=>k_is);(case m_k=>k_is)
  have Mt_ShutOut_stops:Mc.jD (L2.KOf KX) mg:=by
   dsimp only[L2.KOf]
   refine' Mc.pX KX G ?m2 ?p1 ?p2 ?p3 ?p4 ?k2 ?k3 ?m_l ?m_c ?m_k
   (case m2=>k_is);(case k2=>k_is);(case m_l=>k_is);(case p1=>k_is);(case p2=>k_is);(case p3=>k_is);(case p4=>k_is);(case k3=>k_is);(case m_c=>k_is);(case m_k=>k_is)
  have Mt_ForEver_stops:Mc.jF (L2.KOf KX) mg:=by
   dsimp only[L2.KOf]
   refine' Mc.pZ KX G ?m2 ?p1 ?p2 ?p3 ?p4 ?k2 ?k3 ?m_l ?m_c ?m_k
   (case m2=>k_is);(case k2=>k_is);(case m_l=>k_is);(case p1=>k_is);(case p2=>k_is);(case p3=>k_is);(case p4=>k_is);(case k3=>k_is);(case m_c=>k_is);(case m_k=>k_is)
  have Mt_LetBy_paper:Mc.kN (L2.KOf KX) mg:=by
   dsimp only[L2.KOf]
   refine' Mc.sO KX G ?m2 ?p1 ?p2 ?p3 ?p4 ?k2 ?k3 ?m_l ?m_c ?m_k
   (case m2=>k_is);(case k2=>k_is);(case m_l=>k_is);(case p1=>k_is);(case p2=>k_is);(case p3=>k_is);(case p4=>k_is);(case k3=>k_is);(case m_c=>k_is);(case m_k=>k_is)
  have Mt_ShutOut_paper:Mc.jE (L2.KOf KX) mg:=by
   dsimp only[L2.KOf]
   refine' Mc.pY KX G ?m2 ?p1 ?p2 ?p3 ?p4 ?k2 ?k3 ?m_l ?m_c ?m_k
   (case m2=>k_is);(case k2=>k_is);(case m_l=>k_is);(case p1=>k_is);(case p2=>k_is);(case p3=>k_is);(case p4=>k_is);(case k3=>k_is);(case m_c=>k_is);(case m_k=>k_is)
  have Mt_ForEver_paper:Mc.jG (L2.KOf KX) mg:=by
   dsimp only[L2.KOf]
   refine' Mc.p5 KX G ?m2 ?p1 ?p2 ?p3 ?p4 ?k2 ?k3 ?m_l ?m_c ?m_k
   (case m2=>k_is);(case k2=>k_is);(case m_l=>k_is);(case p1=>k_is);(case p2=>k_is);(case p3=>k_is);(case p4=>k_is);(case k3=>k_is);(case m_c=>k_is);(case m_k=>k_is)
  have LL:∃ fd,L2.Fun (L2.KOf KX) "law" "law" (Mc.top 43) fa fd/\∀ (s:Shared) (u:Value),BindsTo s fd ⟨[u],[]⟩ [("_law_script",u)]:=by
   dsimp only[L2.KOf]
   refine' Mc.aOC KX G hmg ?a4 ?l4 ?c4 ?k4
   (case a4=>k_is);(case l4=>k_is);(case c4=>k_is);(case k4=>k_is)
  obtain ⟨fd,FL,hb⟩:=LL
  exact ⟨fd,hb,fun base _ _=>Mc.aLS T E_NoStrip Ob_LetBy Ob_ShutOut Ob_ForEver fo_first fo_again fo_borders fo_room fo_place Mt_LetBy_stops Mt_ShutOut_stops Mt_ForEver_stops Mt_LetBy_paper Mt_ShutOut_paper Mt_ForEver_paper D7 D8 D9 D16 D17 D18 D19 D21 D22 D23 D25 D26 D27 D28 D29 D30 D31 D32 D33 D34 D35 D36 D37 D38 D39 D40 D41 D42 FL⟩
end
