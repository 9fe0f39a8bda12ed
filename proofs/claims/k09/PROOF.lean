import PyProof.Rows.All
import Wide.All
import OpenK.AllK
import Wide.FinOn
import Lean
import PyProof.EqAt
import PyProof.EqKinds
import PyProof.TupleCall
import PyProof.ExcInit
import PyProof.InstStoreFacts
import PyProof.StrLawsFirst
import PyProof.StrLawsIn
import KE.KLam
import PyProof.ListMulRoad
import PyProof.Rows.ListMul
import PyProof.ZipIter
import PyProof.Draws
import PyProof.ListStr
import PyProof.DictWalks
import PyProof.DictTruth
import PyProof.ListRange
import PyProof.StrLaws
import PyProof.StrLawsIdx
import PyProof.P3In
import PyProof.AttrMissHeap
import PyProof.StrBlock2
import PyProof.Rows.StrClip
import PySem.Challenge.RW_striproam_k09_papers_for_ever
set_option linter.all false
set_option maxRecDepth 100000
set_option maxHeartbeats 4000000
set_option Elab.async false
set_option linter.all false
set_option maxRecDepth 100000
set_option genSizeOf false
def PySem.W.Fast.tw7180850140113794387:=()
def PySem.W.Fast.tw10095006943466319983:=()
def PySem.W.Fast.tw7738868138937370643:=()
def PySem.W.Fast.tw15695573252724434960:=()
def PySem.W.Fast.tw8688182160236015082:=()
def PySem.W.Fast.tw15624814750972266802:=()
def PySem.W.Fast.tw17804217751949209436:=()
def PySem.W.Fast.tw15428062964550985116:=()
def PySem.W.Fast.tw13357656824864779546:=()
def PySem.W.Fast.tw16115753831752579949:=()
theorem Mc.bn1{α:Type}{P:List α->Prop}(h:∀ a,P [a]):∀ us:List α,us.length=1->P us
 | [a],_=>h a
theorem Mc.bn2{α:Type}{P:List α->Prop}(h:∀ a b,P [a,b]):∀ us:List α,us.length=2->P us
 | [a,b],_=>h a b
theorem Mc.bn3{α:Type}{P:List α->Prop}(h:∀ a b c,P [a,b,c]):∀ us:List α,us.length=3->P us
 | [a,b,c],_=>h a b c
theorem Mc.bn4{α:Type}{P:List α->Prop}(h:∀ a b c d,P [a,b,c,d]):∀ us:List α,us.length=4->P us
 | [a,b,c,d],_=>h a b c d
theorem Mc.bn5{α:Type}{P:List α->Prop}(h:∀ a b c d e,P [a,b,c,d,e]):∀ us:List α,us.length=5->P us
 | [a,b,c,d,e],_=>h a b c d e
open PySem.W (Frag)
noncomputable section
namespace L2
open PySem PySem.Spec PyProof.Rows
abbrev Key:=Sum Int Str
noncomputable def pI:Key->Value->Bool
 | .inl k,v=>Value.isInt k v
 | .inr x,v=>Value.isStrOf x v
noncomputable def aL0(w:World):Key->Int
 | .inl k=>hashInt k
 | .inr x=>hashStr w x
theorem keyIs_shape:∀ {k:Key} {v:Value},pI k v=true->(∃ i t,k=Sum.inl i/\v=Value.int i t)\/(∃ x t,k=Sum.inr x/\v=Value.str x t)
 | .inl i,v,h=>by
  obtain ⟨t,e⟩:=Value.isInt_shape (k:=i) (v:=v) h
  exact .inl ⟨i,t,rfl,e⟩
 | .inr x,v,h=>by
  obtain ⟨t,e⟩:=Value.isStrOf_shape (x:=x) (v:=v) h
  exact .inr ⟨x,t,rfl,e⟩
theorem aA8(i:Int)(t:Tok):pI (.inl i) (.int i t)=true:=by simp[pI,Value.isInt]
theorem aA9(x:Str)(t:Tok):pI (.inr x) (.str x t)=true:=by simp[pI,Value.isStrOf]
theorem aH4(a b:Int):decide ((Sum.inl a:Key)=Sum.inl b)=(a == b):=by
 by_cases e:a=b
 ·subst e;simp
 ·have h:¬ (Sum.inl a:Key)=Sum.inl b:=fun q=>e (Sum.inl.inj q)
  rw[decide_eq_false h]
  exact (beq_eq_false_iff_ne.mpr e).symm
theorem aH5(a b:Str):decide ((Sum.inr a:Key)=Sum.inr b)=decide (a=b):=by
 by_cases e:a=b
 ·subst e;simp
 ·have h:¬ (Sum.inr a:Key)=Sum.inr b:=fun q=>e (Sum.inr.inj q)
  rw[decide_eq_false h,decide_eq_false e]
theorem aH6(a:Int)(b:Str):decide ((Sum.inl a:Key)=Sum.inr b)=false:=decide_eq_false (fun q=>nomatch q)
theorem aH7(a:Str)(b:Int):decide ((Sum.inr a:Key)=Sum.inl b)=false:=decide_eq_false (fun q=>nomatch q)
noncomputable def dN(prog:Program)(w:World):PySem.KeyKind prog w Key where
 is:=pI
 hash:=aL0 w
 inj:=fun v a b ha hb=>by
  rcases keyIs_shape ha with ⟨i,t,rfl,rfl⟩|⟨x,t,rfl,rfl⟩
  ·rcases keyIs_shape hb with ⟨j,u,rfl,e⟩|⟨y,u,rfl,e⟩
   · injection e with e1 _; rw [e1]
   · exact nomatch e
  ·rcases keyIs_shape hb with ⟨j,u,rfl,e⟩|⟨y,u,rfl,e⟩
   · exact nomatch e
   · injection e with e1 _; rw [e1]
 byValue:=fun k v h=>by
  rcases keyIs_shape h with ⟨i,t,rfl,rfl⟩|⟨x,t,rfl,rfl⟩<;>rfl
 pyHash:=fun hv h=>by
  rcases keyIs_shape hv with ⟨i,t,rfl,rfl⟩|⟨x,t,rfl,rfl⟩
  ·exact wpAny_pyHash_int h
  ·exact wpAny_pyHash_str h
 eqBool:=fun hu hv h=>by
  rcases keyIs_shape hu with ⟨i,t,rfl,rfl⟩|⟨x,t,rfl,rfl⟩
  ·rcases keyIs_shape hv with ⟨j,u,rfl,rfl⟩|⟨y,u,rfl,rfl⟩
   · rw [aH4] at h; exact wpAny_eqBool_int h
   · rw [aH6] at h; exact SeqAt.EqAt.int_str i t y u _ _ _ _ h
  ·rcases keyIs_shape hv with ⟨j,u,rfl,rfl⟩|⟨y,u,rfl,rfl⟩
   · rw [aH7] at h; exact SeqAt.EqAt.str_int x t j u _ _ _ _ h
   · rw [aH5] at h; exact wpAny_eqBool_str h
 «strs»:=fun k x t v h=>by
  rcases keyIs_shape h with ⟨i,u,rfl,e⟩|⟨y,u,rfl,e⟩
  ·exact nomatch e
  ·injection e with e1 _
   subst e1
   cases v<;>rfl
theorem x8(prog:Program)(w:World)(i:Int)(t:Tok):(dN prog w).is (.inl i) (.int i t)=true:=aA8 i t
theorem x9(prog:Program)(w:World)(x:Str)(t:Tok):(dN prog w).is (.inr x) (.str x t)=true:=aA9 x t
end L2
namespace L2
open PySem PySem.Spec PyProof.Rows
inductive V where
 | non|bl (b:Bool)|int (i:Int)|str (x:Str)|byt (b:Array UInt8)|flt (b:UInt64)|ref (a:Addr)|ty (n:String)
 deriving DecidableEq
def bH:V->Value->Prop
 | .non,u=>u=Value.none
 | .bl b,u=>u=Value.bool b
 | .int i,u=>∃ t,u=Value.int i t
 | .str x,u=>∃ t,u=Value.str x t
 | .byt b,u=>∃ t,u=Value.bytes b t
 | .flt b,u=>∃ t,u=Value.float b t
 | .ref a,u=>u=Value.ref a
 | .ty n,u=>u=Value.type n
abbrev bG:List V->List Value->Prop:=Paired bH
theorem bG.length{xs:List V}{us:List Value}(r:bG xs us):xs.length=us.length:=Paired.length r
theorem bG.get:∀ {xs:List V} {us:List Value} {i:Nat} {x:V},bG xs us->xs[i]? = some x->∃ u,us[i]? = some u/\bH x u
 | _,_,_,_,.nil,e=>by simp at e
 | _,_,0,_,.cons r _,e=>by simp at e;subst e;exact ⟨_,rfl,r⟩
 | _,_,i+1,x,.cons _ t,e=>by
  obtain ⟨u,h1,h2⟩:=bG.get (i:=i) (x:=x) t (by simpa using e)
  exact ⟨u,by simpa using h1,h2⟩
theorem bG.set{x:V}{u:Value}(r:bH x u):∀ {xs:List V} {us:List Value} (i:Nat),bG xs us->bG (xs.set i x) (us.set i u)
 | _,_,_,.nil=>.nil
 | _,_,0,.cons _ t=>.cons r t
 | _,_,i+1,.cons q t=>.cons q (bG.set r i t)
theorem bG.append:∀ {xs ys:List V} {us ws:List Value},bG xs us->bG ys ws->bG (xs++ys) (us++ws)
 | _,_,_,_,.nil,s=>s
 | _,_,_,_,.cons r t,s=>.cons r (bG.append t s)
theorem bG.take:∀ {xs:List V} {us:List Value} (n:Nat),bG xs us->bG (xs.take n) (us.take n)
 | _,_,0,_=>.nil
 | _,_,_+1,.nil=>.nil
 | _,_,n+1,.cons r t=>.cons r (bG.take n t)
theorem bG.drop:∀ {xs:List V} {us:List Value} (n:Nat),bG xs us->bG (xs.drop n) (us.drop n)
 | _,_,0,r=>r
 | _,_,_+1,.nil=>.nil
 | _,_,n+1,.cons _ t=>bG.drop n t
def f6:Option V->Option Value->Prop
 | some v,some u=>bH v u
 | none,none=>True
 | _,_=>False
def KV{κ:Type}:List (κ×V)->List (κ×Value)->Prop:=Paired fun (p:κ×V) (q:κ×Value)=>p.1=q.1/\bH p.2 q.2
noncomputable def kV:Key->V
 | .inl i=>.int i
 | .inr x=>.str x
inductive HO where
 | lst (xs:List V)
 | tup (xs:List V)
 | dK (kvs:List (Key×V))|dT (kvs:List (List Key×V))
 | set (S:Int->Bool) (n:Nat)
 | ins (C dx:Addr) (fs:List (Str×V))
 | own (x:Addr)
 | xd (fs:List (Str×V))
 | met (f x:Addr)
 | rng (lo hi:Int)
 | frz (o:Obj) (u:HO)
 | tbl (qs:List (Pos×Str))
 | cod (q:Str)
 | ext (φ:Heap->Prop)
abbrev Hp:=Addr->Option HO
noncomputable def upd(H:Hp)(a:Addr)(o:HO):Hp:=fun b=>if b=a then some o else H b
theorem aW{H:Hp}{a:Addr}{o:HO}:upd H a o a=some o:=by unfold upd;rw[if_pos rfl]
theorem aK{H:Hp}{a b:Addr}{o:HO}(h:b≠a):upd H a o b=H b:=by unfold upd;rw[if_neg h]
theorem gW{H:Hp}{a:Addr}{o u:HO}:upd (upd H a o) a u=upd H a u:=by
 funext b;unfold upd;split<;>rfl
theorem cN{H:Hp}{a b:Addr}{o:HO}(h:H a=some o)(h':H b=none):a≠b:=by
 intro e;subst e;rw[h] at h';cases h'
section
variable(P:Program)(w:World)
def cR(H:Hp)(h:Heap)(a:Addr):HO->Prop
 | .lst xs=>xs.length<=sizeLine/\∃ (its:List Value) (n:Nat),bG xs its/\h.get? a=some {cls:=.type "list",data:=.seq its.toArray n}
 | .tup xs=>xs.length<=sizeLine/\∃ its:List Value,bG xs its/\IsTup h a its.toArray
 | .dK kvs=>kvs.length<=sizeLine/\(a == sysModules)=false/\∃ vs,KV kvs vs/\h.DictOf (dN P w) a vs
 | .dT kvs=>kvs.length<=sizeLine/\(a == sysModules)=false/\∃ xs:List (List Key×Addr×Value),
  Paired (fun (p:List Key×V) (q:List Key×Addr×Value)=>p.1=q.1/\H q.2.1=some (.tup (p.1.map kV))/\bH p.2 q.2.2) kvs xs /\
  ∃ o es ep,h.get? a=some o/\o.ExactDict/\o.data=.dict es ep/\es.toList=xs.map (entryOfKey (tupleKind (dN P w)))/\(xs.map (·.1)).Nodup
 | .set S n=>h.SetOf (intKind P w) a S n
 | .ins C dx fs=>H dx=some (.own a)/\fs.length<=1000/\dx≠a/\h.get? a=some (PySem.W.instObj C dx) /\
  ∃ mA,h.Ns1 dx mA/\(∀ f,f6 (fs.lookup f) (mA f))/\PySem.Within mA (fs.map (·.1))
 | .own _=>∃ o,h.get? a=some o
 | .xd fs=>∃ mA,h.Ns1 a mA/\∀ f,f6 (fs.lookup f) (mA f)
 | .rng lo hi=>∃ t u v,h.get? a=some {cls:=.type "range",data:=.fields #[.int lo t,.int hi u,.int 1 v]}
 | .frz o u=>h.get? a=some o/\cR H h a u
 | .tbl qs=>∃ ps:Array Value,h.get? a=some {cls:=.none,data:=.fields ps}/\TriplesOk ps.toList/\∀ p∈qs,codeAmong p.1 ps.toList=none\/∃ c,codeAmong p.1 ps.toList=some (.ref c)/\H c=some (.cod p.2)
 | .cod q=>h.CodeRec (.ref a) q
 | .met f x=>h.get? a=some (PySem.W.methodObj (.ref f) (.ref x))
 | .ext φ=>φ h/\(∃ o,h.get? a=some o)/\∀ h1 h2:Heap,φ h1->(∀ o,h1.get? a=some o->h2.get? a=some o)->φ h2
def HOk(H:Hp)(h:Heap):Prop:=∀ a o,H a=some o->cR P w H h a o
end
section
variable{P:Program}{w:World}{H H':Hp}{h h':Heap}{a:Addr}{o:HO}
theorem cR.lt(x:cR P w H h a o):a < h.objs.size:=by
 cases o with
 | lst xs=>obtain ⟨_,_,_,_,e⟩:=x;exact Heap.lt_size e
 | tup xs=>obtain ⟨_,_,_,p⟩:=x;exact p.lt
 | dK kvs=>obtain ⟨_,_,_,_,o,_,_,e,_⟩:=x;exact Heap.lt_size e
 | dT kvs=>obtain ⟨_,_,_,_,o,_,_,e,_⟩:=x;exact Heap.lt_size e
 | set S n=>obtain ⟨o,_,_,_,e,_⟩:=x;exact Heap.lt_size e
 | ins C dx fs=>obtain ⟨_,_,_,e,_⟩:=x;exact Heap.lt_size e
 | own y=>obtain ⟨_,e⟩:=x;exact Heap.lt_size e
 | xd fs=>obtain ⟨_,⟨_,_,_,e,_⟩,_⟩:=x;exact Heap.lt_size e
 | rng lo hi=>obtain ⟨_,_,_,e⟩:=x;exact Heap.lt_size e
 | frz ob u=>obtain ⟨e,_⟩:=x;exact Heap.lt_size e
 | tbl qs=>obtain ⟨ps,e,_⟩:=x;exact Heap.lt_size e
 | cod q=>obtain ⟨c,o,vs,t,e,ho,_⟩:=x;cases e;exact Heap.lt_size ho
 | met f y=>exact Heap.lt_size (show h.get? a=some _ from x)
 | ext φ=>obtain ⟨_,⟨_,e⟩,_⟩:=x;exact Heap.lt_size e
theorem Paired.mapP{α β:Type}{F G:α->β->Prop}:∀ {l₁:List α} {l₂:List β},Paired F l₁ l₂->(∀ a b,F a b->G a b)->Paired G l₁ l₂
 | _,_,.nil,_=>.nil
 | _,_,.cons r t,f=>.cons (f _ _ r) (Paired.mapP t f)
theorem cR.stay(x:cR P w H h a o)(k:∀ b u,(b=a\/H b=some (.own a))->h.get? b=some u->h'.get? b=some u)
  (ho:∀ b,H b=some (.own a)->H' b=some (.own a)) (hc:∀ b q,H b=some (.cod q)->H' b=some (.cod q)) (ht:∀ b xs,H b=some (.tup xs)->H' b=some (.tup xs)):cR P w H' h' a o:=by
 induction o with
 | lst xs=>obtain ⟨z,its,n,r,e⟩:=x;exact ⟨z,its,n,r,k _ _ (.inl rfl) e⟩
 | tup xs=>obtain ⟨z,its,r,ob,e,c⟩:=x;exact ⟨z,its,r,ob,k _ _ (.inl rfl) e,c⟩
 | dK kvs=>obtain ⟨z,y,vs,r,ob,es,ep,e,c⟩:=x;exact ⟨z,y,vs,r,ob,es,ep,k _ _ (.inl rfl) e,c⟩
 | dT kvs=>
  obtain ⟨z,y,xs,r,ob,es,ep,e,c⟩:=x
  exact ⟨z,y,xs,Paired.mapP r fun p q z=>⟨z.1,ht _ _ z.2.1,z.2.2⟩,ob,es,ep,k _ _ (.inl rfl) e,c⟩
 | set S n=>obtain ⟨ob,es,ep,t,e,c⟩:=x;exact ⟨ob,es,ep,t,k _ _ (.inl rfl) e,c⟩
 | ins C dx fs=>
  obtain ⟨d,z,ne,e,mA,⟨od,es,ep,e2,c⟩,r⟩:=x
  exact ⟨ho _ d,z,ne,k _ _ (.inl rfl) e,mA,⟨od,es,ep,k _ _ (.inr d) e2,c⟩,r⟩
 | own y=>obtain ⟨ob,e⟩:=x;exact ⟨ob,k _ _ (.inl rfl) e⟩
 | xd fs=>obtain ⟨mA,⟨od,es,ep,e,c⟩,r⟩:=x;exact ⟨mA,⟨od,es,ep,k _ _ (.inl rfl) e,c⟩,r⟩
 | rng lo hi=>obtain ⟨t,u,v,e⟩:=x;exact ⟨t,u,v,k _ _ (.inl rfl) e⟩
 | frz ob u ih=>obtain ⟨e,q⟩:=x;exact ⟨k _ _ (.inl rfl) e,ih q⟩
 | tbl qs=>
  obtain ⟨ps,e,t,r⟩:=x
  refine ⟨ps,k _ _ (.inl rfl) e,t,fun p hp=>?_⟩
  rcases r p hp with z|⟨c,z,z2⟩
  · exact .inl z
  · exact .inr ⟨c, z, hc _ _ z2⟩
 | cod q=>
  obtain ⟨c,o,vs,t,e,ho,r⟩:=x
  cases e
  exact ⟨_,o,vs,t,rfl,k _ _ (.inl rfl) ho,r⟩
 | met f y=>
  have e:h.get? a=some (PySem.W.methodObj (.ref f) (.ref y)):=x
  show h'.get? a=some (PySem.W.methodObj (.ref f) (.ref y))
  exact k a _ (.inl rfl) e
 | ext φ=>obtain ⟨p,⟨o,e⟩,st⟩:=x;exact ⟨st _ _ p fun o q=>k _ _ (.inl rfl) q,⟨o,k _ _ (.inl rfl) e⟩,st⟩
theorem HOk.lt(x:HOk P w H h)(e:H a=some o):a < h.objs.size:=(x a o e).lt
theorem HOk.fresh(x:HOk P w H h)(e:h.objs.size<=a):H a=none:=by
 cases q:H a with
 | none=>rfl
 | some u=>exact absurd (Nat.lt_of_lt_of_le (x.lt q) e) (Nat.lt_irrefl _)
theorem HOk.kept(x:HOk P w H h)(k:∀ b u,h.get? b=some u->h'.get? b=some u):HOk P w H h':=fun a o e=>
 (x a o e).stay (fun b u _ q=>k b u q) (fun _ q=>q) (fun _ _ q=>q) fun _ _ q=>q
theorem HOk.laid(x:HOk P w H h)(k:∀ b u,h.get? b=some u->h'.get? b=some u)(hp:h.objs.size<=a)(new:cR P w (upd H a o) h' a o):HOk P w (upd H a o) h':=fun b u e=>by
 have hn:=x.fresh hp
 by_cases hb:b=a
 ·subst hb;rw[aW] at e;cases e;exact new
 ·rw[aK hb] at e
  exact (x b u e).stay (fun c v _ q=>k c v q) (fun c q=>by rw[aK (cN q hn)];exact q) (fun c xs q=>by rw[aK (cN q hn)];exact q) fun c xs q=>by rw[aK (cN q hn)];exact q
end
def Rd(H:Hp)(a:Addr)(u:HO):Prop:=H a=some u\/∃ o,H a=some (.frz o u)
theorem Rd.ok{P:Program}{w:World}{H:Hp}{h:Heap}{a:Addr}{u:HO}(r:Rd H a u)(x:HOk P w H h):cR P w H h a u:=by
 rcases r with r|⟨o,r⟩
 ·exact x a u r
 ·obtain ⟨_,q⟩:=x a _ r
  exact q
def Mut:Option HO->Prop
 | some (.lst _)=>True
 | some (.dK _)=>True
 | some (.dT _)=>True
 | some (.set _ _)=>True
 | some (.ins _ _ _)=>True
 | some (.ext _)=>True
 | _=>False
section
variable{P:Program}{w:World}{H:Hp}{h h':Heap}{x e:Addr}{o':HO}
theorem HOk.write(ok:HOk P w H h)(mu:Mut (H x))(he:e=x\/H e=some (.own x))(k:∀ b u,b≠e->h.get? b=some u->h'.get? b=some u)(heo:∃ u,h'.get? e=some u)
  (new:cR P w (upd H x o') h' x o'):HOk P w (upd H x o') h':=fun b u q=>by
 have nown:∀ c y,H c=some (.own y)->c≠x:=fun c y r z=>by subst z;rw[r] at mu;exact mu
 have ntup:∀ c xs,H c=some (.tup xs)->c≠x:=fun c xs r z=>by subst z;rw[r] at mu;exact mu
 have ncod:∀ c xs,H c=some (.cod xs)->c≠x:=fun c xs r z=>by subst z;rw[r] at mu;exact mu
 by_cases hb:b=x
 ·subst hb;rw[aW] at q;cases q;exact new
 ·rw[aK hb] at q
  by_cases hbe:b=e
  ·have q':H b=some (.own x):=by
    rcases he with z|z
    · exact absurd (hbe.trans z) hb
    · rw [hbe]; exact z
   rw[q] at q';cases q'
   obtain ⟨v,hv⟩:=heo
   exact ⟨v,by rw[hbe];exact hv⟩
  ·refine (ok b u q).stay (fun c v hc r=>k c v ?_ r) (fun c r=>by rw[aK (nown c b r)];exact r) (fun c xs r=>by rw[aK (ncod c xs r)];exact r) fun c xs r=>by rw[aK (ntup c xs r)];exact r
   rcases hc with rfl|hc
   ·exact hbe
   ·rintro rfl
    rcases he with z|z
    · exact nown c b hc z
    · rw [hc] at z; cases z; exact hb rfl
end
structure Un(fs ex:List Addr)(H H':Hp)(h h':Heap):Prop where
 keep:∀ b o,h.get? b=some o->H b=none->b∉fs->b∉ex->h'.get? b=some o
 slot:∀ b o,h.get? b=some o->H b=none->b∈fs->b∉ex->∃ sl,h'.get? b=some {o with slots:=sl}
 free:∀ b o,h.get? b=some o->H b=none->b∉ex->H' b=none
 there:∀ b o,h.get? b=some o->b∉ex->∃ o',h'.get? b=some o'
 tups:∀ b xs,H b=some (.tup xs)->H' b=some (.tup xs)
 frzs:∀ b o u,H b=some (.frz o u)->H' b=some (.frz o u)
 tbls:∀ b ps,H b=some (.tbl ps)->H' b=some (.tbl ps)
section
variable{fs fs' ex ex':List Addr}{H H1 H2:Hp}{h h1 h2 h':Heap}{a x e:Addr}{o:HO}
theorem Un.any(u:Un fs ex H H1 h h1){b:Addr}{ob:Obj}(q:h.get? b=some ob)(n:H b=none)(hx:b∉ex):∃ sl,h1.get? b=some {ob with slots:=sl}:=by
 by_cases hb:b∈fs
 · exact u.slot b ob q n hb hx
 · exact ⟨ob.slots, u.keep b ob q n hb hx⟩
theorem Un.trans(a:Un fs ex H H1 h h1)(b:Un fs ex H1 H2 h1 h2):Un fs ex H H2 h h2 where
 keep:=fun c ob q n hc hx=>b.keep c ob (a.keep c ob q n hc hx) (a.free c ob q n hx) hc hx
 slot:=fun c ob q n hc hx=>by
  obtain ⟨sl,e1⟩:=a.slot c ob q n hc hx
  obtain ⟨sl',e2⟩:=b.slot c _ e1 (a.free c ob q n hx) hc hx
  exact ⟨sl',e2⟩
 free:=fun c ob q n hx=>by
  obtain ⟨o',e1⟩:=a.there c ob q hx
  exact b.free c o' e1 (a.free c ob q n hx) hx
 there:=fun c ob q hx=>by
  obtain ⟨o',e1⟩:=a.there c ob q hx
  exact b.there c o' e1 hx
 tups:=fun c xs q=>b.tups c xs (a.tups c xs q)
 frzs:=fun c ob xs q=>b.frzs c ob xs (a.frzs c ob xs q)
 tbls:=fun c ps q=>b.tbls c ps (a.tbls c ps q)
theorem Un.kept(k:∀ b u,h.get? b=some u->h'.get? b=some u):Un fs ex H H h h':=
 ⟨fun b ob q _ _ _=>k b ob q,fun b ob q _ _ _=>⟨ob.slots,k b ob q⟩,fun _ _ _ n _=>n,fun b ob q _=>⟨ob,k b ob q⟩,fun _ _ q=>q,fun _ _ _ q=>q,fun _ _ q=>q⟩
theorem Un.refl:Un fs ex H H h h:=Un.kept fun _ _ q=>q
theorem Un.laid(k:∀ b u,h.get? b=some u->h'.get? b=some u)(hp:h.objs.size<=a)(hn:H a=none):Un fs ex H (upd H a o) h h' where
 keep:=fun b u q _ _ _=>k b u q
 slot:=fun b u q _ _ _=>⟨u.slots,k b u q⟩
 free:=fun b u q n _=>by rw[aK (Nat.ne_of_lt (Nat.lt_of_lt_of_le (Heap.lt_size q) hp))];exact n
 there:=fun b u q _=>⟨u,k b u q⟩
 tups:=fun b xs q=>by rw[aK (cN q hn)];exact q
 frzs:=fun b u xs q=>by rw[aK (cN q hn)];exact q
 tbls:=fun b ps q=>by rw[aK (cN q hn)];exact q
theorem Un.write(mu:Mut (H x))(he:e=x\/H e=some (.own x))(k:∀ b u,b≠e->h.get? b=some u->h'.get? b=some u)(heo:∃ u,h'.get? e=some u):Un fs ex H (upd H x o) h h':=by
 have hx:∀ b,H b=none->b≠x:=fun b n z=>by subst z;rw[n] at mu;exact mu
 have hb:∀ b,H b=none->b≠e:=fun b n z=>by
  subst z
  rcases he with r|r
  · exact hx b n r
  · rw [n] at r; cases r
 have hm:∀ b u,H b=some u->¬ Mut (some u)->b≠x:=fun b u q nm z=>by subst z;rw[q] at mu;exact nm mu
 refine ⟨fun b u q n _ _=>k b u (hb b n) q,fun b u q n _ _=>⟨u.slots,k b u (hb b n) q⟩,fun b u q n _=>by rw[aK (hx b n)];exact n,fun b u q _=>?_,
  fun b xs q=>by rw[aK (hm b _ q fun z=>z)];exact q,fun b u xs q=>by rw[aK (hm b _ q fun z=>z)];exact q,fun b ps q=>by rw[aK (hm b _ q fun z=>z)];exact q⟩
 by_cases hbe:b=e
 ·subst hbe;exact heo
 ·exact ⟨u,k b u hbe q⟩
end
noncomputable def trk(h:Heap)(H:Hp):List Addr:=(List.range h.objs.size).filter fun a=>(H a).isSome
def mY(h:Heap)(H:Hp):Heap:=PySem.W.hideAll h (trk h H)
theorem aBA(h:Heap)(H:Hp):(mY h H).objs.size=h.objs.size:=PySem.W.hideAll_size _ _
theorem aDB{h:Heap}{H:Hp}{b:Addr}{o:Obj}(e:h.get? b=some o)(n:H b=none):(mY h H).get? b=some o:=
 PySem.W.hideAll_get _ e fun hm=>by
  have q:(H b).isSome=true:=(List.mem_filter.mp hm).2
  rw[n] at q;simp at q
theorem aGA{h:Heap}{H:Hp}{b:Addr}{o:Obj}(e:(mY h H).get? b=some o):h.get? b=some o/\H b=none:=by
 have e':h.get? b=some o:=PySem.W.of_hideAll (trk h H) e
 refine ⟨e',?_⟩
 cases q:H b with
 | none=>rfl
 | some x=>
  have hm:b∈trk h H:=List.mem_filter.mpr ⟨List.mem_range.mpr (Heap.lt_size e'),by simp[q]⟩
  have z:(mY h H).get? b=none:=PySem.W.hideAll_none (trk h H) hm
  rw[z] at e;cases e
def aGB(g h:Heap)(L:Addr):List (Addr×Obj):=(List.range h.objs.size).filterMap fun a=>if a=L\/(g.get? a).isSome=true then none else (h.get? a).map fun o=>(a,o)
def rest(g h:Heap)(L d:Addr):List (Addr×Obj):=(aGB g h L).filter fun p=>decide (p.1≠d)
end L2
namespace L2
open PySem PySem.Spec PyProof.Rows
structure Mod(K:Frag)(mg:Str->Option Value)(base:Heap):Prop where
 kin:K.In base
 glob:base.Ns mainGlobals mg
 blt:∃ mb,base.Ns builtinsNs mb/\∀ x:Str,x≠"__name__"->mb x=bootBuiltins x
 nolimit:base.NoLimit
structure Cx where
 prog:Program
 w:World
 K:Frag
 mg:Str->Option Value
 base:Heap
 A:Around
 N:List Str
 s₀:Shared
 H₀:Hp
 env:Env
 outer:List Env
 stack:List Env
 ex:List Addr
 fn:Str->Bool
 calm:Bool
 pn:List (Addr×Obj)
 xe:Value->Shared->Prop
noncomputable def frs(l:List Env):List Addr:=l.filterMap (·.frame)
abbrev Cx.fs(X:Cx):List Addr:=frs X.outer
def Vis(sc:Scope)(x:Str):Prop:=sc.names.lookup x=some .local\/sc.names.lookup x=some .cell\/sc.names.lookup x=some .free
def Loc(sc:Scope)(x:Str):Prop:=sc.names.lookup x=some .local\/sc.names.lookup x=some .cell
def aL1(env:Env)(h:Heap)(m:Str->Option Value)(x:Str)(u:Value):Prop:=
 (env.kindOf x=some .local/\m x=some u)\/((env.kindOf x=some .cell\/env.kindOf x=some .free)/\∃ c,env.cells.lookup x=some c/\h.IsCell c (some u))
structure Cx.Ok(X:Cx):Prop where
 mod:Mod X.K X.mg X.base
 kind:X.env.scope.kind=.function
 glob:X.env.globals=mainGlobals
 blt:X.env.builtins=builtinsNs
 above:X.s₀.heap.objs.size<=X.env.locals
 inj:∀ x y c,X.env.cells.lookup x=some c->X.env.cells.lookup y=some c->x=y
 has:∀ x,(X.env.kindOf x=some .cell\/X.env.kindOf x=some .free)->∃ c,X.env.cells.lookup x=some c
 cab:∀ x c,X.fn x=true->X.env.cells.lookup x=some c->X.s₀.heap.objs.size<=c
 hd:X.calm=true->X.A.handled=none
 frames:X.A.frames=some X.stack
 stk:X.stack=X.outer\/(X.stack=X.env::X.outer/\X.env.frame=some X.env.locals)
 exf:∀ b∈X.ex,b≠X.env.locals/\∀ x c,X.env.cells.lookup x=some c->c≠b
 bs:∀ b o,X.base.get? b=some o->X.s₀.heap.get? b=some o/\X.H₀ b=none
 bsz:X.base.objs.size<=X.s₀.heap.objs.size
 noex:∀ b o,X.base.get? b=some o->b∉X.ex
 exfs:∀ b∈X.ex,b∉X.fs
 funs:X.s₀.heap.FunFrames X.base X.outer
 frf:∀ b∈X.fs,X.H₀ b=none
structure Inv(X:Cx)(pins:List (Addr×Obj))(σ:List (Option V))(H:Hp)(s:Shared):Prop where
 ok:X.Ok
 os:s.os=X.s₀.os
 bare:AllBare s.gens
 base:Un X.fs X.ex X.H₀ H X.s₀.heap s.heap
 loc:∃ m,s.heap.Ns X.env.locals m/\∀ (i:Nat) (x:Str) (v:V),X.N[i]? = some x->σ[i]? = some (some v)->Vis X.env.scope x->∃ u,bH v u/\aL1 X.env s.heap m x u
 cell:∀ x c,X.env.cells.lookup x=some c->∃ v,s.heap.IsCell c v
 free:H X.env.locals=none
 freeC:∀ x c,X.env.cells.lookup x=some c->H c=none
 pin:∀ p∈X.pn++pins,s.heap.get? p.1=some p.2/\H p.1=none/\p.1≠X.env.locals/\p.1∉X.fs/\∀ v,p.2.data≠.cell v
 hok:HOk X.prog X.w H s.heap
 len:σ.length=X.N.length
section
variable{X:Cx}{pins:List (Addr×Obj)}{σ:List (Option V)}{H H':Hp}{s:Shared}{h':Heap}
theorem Cx.Ok.nofr(ok:X.Ok){b:Addr}{o:Obj}(e:X.base.get? b=some o):b∉X.fs:=fun hb=>by
 have:=(ok.funs.mem hb).1
 rw[e] at this;cases this
theorem Inv.bs(I:Inv X pins σ H s):∀ b o,X.base.get? b=some o->s.heap.get? b=some o/\H b=none:=fun b o e=>
 ⟨I.base.keep b o (I.ok.bs b o e).1 (I.ok.bs b o e).2 (I.ok.nofr e) (I.ok.noex b o e),I.base.free b o (I.ok.bs b o e).1 (I.ok.bs b o e).2 (I.ok.noex b o e)⟩
theorem Inv.bk(I:Inv X pins σ H s):∀ b o,X.base.get? b=some o->s.heap.get? b=some o:=fun b o e=>(I.bs b o e).1
theorem Inv.mod(I:Inv X pins σ H s):Mod X.K X.mg X.base:=I.ok.mod
theorem Inv.kIn(I:Inv X pins σ H s):X.K.In s.heap:=I.ok.mod.kin.keeps I.bk
theorem Inv.lt(I:Inv X pins σ H s):X.env.locals < s.heap.objs.size:=let ⟨_,hn,_⟩:=I.loc;hn.lt
theorem Inv.sz(I:Inv X pins σ H s):X.s₀.heap.objs.size<=s.heap.objs.size:=Nat.le_trans I.ok.above (Nat.le_of_lt I.lt)
theorem Inv.nofs(I:Inv X pins σ H s){a:Addr}(h:s.heap.objs.size<=a):a∉X.fs:=fun hb=>by
 obtain ⟨_,o,ho,_⟩:=I.ok.funs.mem hb
 exact absurd (Nat.lt_of_lt_of_le (Heap.lt_size ho) (Nat.le_trans I.sz h)) (Nat.lt_irrefl _)
theorem Inv.cne(I:Inv X pins σ H s):∀ x c,X.env.cells.lookup x=some c->c≠X.env.locals:=fun x c e z=>by
 obtain ⟨v,o,ho,hd⟩:=I.cell x c e
 obtain ⟨m,⟨o',es,ep,ho',hd',_⟩,_⟩:=I.loc
 rw[z,ho'] at ho;cases ho;rw[hd'] at hd;cases hd
theorem Inv.funs(I:Inv X pins σ H s):s.heap.FunFrames X.base X.outer:=by
 have all:∀ (l:List Env),(∀ b∈frs l,b∈X.fs)->X.s₀.heap.FunFrames X.base l->s.heap.FunFrames X.base l:=by
  intro l
  induction l with
  | nil=>intro _ _;trivial
  | cons env r ih=>
   intro hs hl
   obtain ⟨hk,⟨L,o,hf,hn,ho,hd⟩,hr⟩:=hl
   have hL:L∈X.fs:=hs L (by unfold frs;rw[List.filterMap_cons,hf];exact List.mem_cons_self)
   obtain ⟨sl,e⟩:=I.base.slot L o ho (I.ok.frf L hL) hL fun z=>I.ok.exfs L z hL
   exact ⟨hk,⟨L,_,hf,hn,e,hd⟩,ih (fun b hb=>hs b (by unfold frs;rw[List.filterMap_cons,hf];exact List.mem_cons_of_mem _ hb)) hr⟩
 exact all X.outer (fun _ hb=>hb) I.ok.funs
theorem Inv.stack(I:Inv X pins σ H s):s.heap.FunFrames X.base X.stack:=by
 rcases I.ok.stk with e|⟨e,hf⟩
 ·rw[e];exact I.funs
 ·rw[e]
  obtain ⟨m,hn,_⟩:=I.loc
  refine .cons (by rw[I.ok.kind];decide) hf hn ?_ I.funs
  exact Heap.get?_none_of_le (Nat.le_trans I.ok.bsz I.ok.above)
theorem Inv.stkSub(I:Inv X pins σ H s):∀ b∈frs X.stack,b∈X.env.locals::X.fs:=fun b hb=>by
 rcases I.ok.stk with e|⟨e,hf⟩
 ·rw[e] at hb;exact List.mem_cons_of_mem _ hb
 ·rw[e] at hb
  unfold frs at hb
  rw[List.filterMap_cons,hf] at hb
  exact hb
theorem Inv.stkFree(I:Inv X pins σ H s):∀ b∈frs X.stack,H b=none:=fun b hb=>by
 rcases List.mem_cons.mp (I.stkSub b hb) with e|hb
 ·rw[e];exact I.free
 ·obtain ⟨_,o,ho,_⟩:=I.ok.funs.mem hb
  exact I.base.free b o ho (I.ok.frf b hb) fun z=>I.ok.exfs b z hb
theorem Inv.step{g':Array GenState}{t':Nat}{d':Drawn}{ch:List Addr}(I:Inv X pins σ H s)
  (hch:∀ b∈ch,(b∈X.ex\/X.s₀.heap.objs.size<=b)/\b≠X.env.locals/\(∀ x c,X.env.cells.lookup x=some c->c≠b)/\∀ p∈X.pn++pins,p.1≠b)
  (keep:∀ b o,b≠X.env.locals->b∉X.fs->b∉ch->s.heap.get? b=some o->H b=none->h'.get? b=some o)
  (slot:∀ b o,b≠X.env.locals->b∈X.fs->b∉ch->s.heap.get? b=some o->H b=none->∃ sl,h'.get? b=some {o with slots:=sl}) (free:∀ b o,b∉ch->s.heap.get? b=some o->H b=none->H' b=none)
  (there:∀ b o,b∉ch->s.heap.get? b=some o->∃ o',h'.get? b=some o')
  (tups:∀ b xs,H b=some (.tup xs)->H' b=some (.tup xs)) (frzs:∀ b o u,H b=some (.frz o u)->H' b=some (.frz o u)) (tbls:∀ b ps,H b=some (.tbl ps)->H' b=some (.tbl ps))
  (ns:∀ m,s.heap.Ns X.env.locals m->h'.Ns X.env.locals m) (hok:HOk X.prog X.w H' h') (hg:AllBare g') :
  Inv X pins σ H' {s with heap:=h',gens:=g',drawn:=d',toks:=t'}:=by
 have neL:∀ b o,X.s₀.heap.get? b=some o->b≠X.env.locals:=fun b o e=>Nat.ne_of_lt (Nat.lt_of_lt_of_le (Heap.lt_size e) I.ok.above)
 have neC:∀ b o,X.s₀.heap.get? b=some o->b∉X.ex->b∉ch:=fun b o e hx hb=>by
  rcases (hch b hb).1 with z|z
  ·exact hx z
  ·exact absurd (Nat.lt_of_lt_of_le (Heap.lt_size e) z) (Nat.lt_irrefl _)
 have cellK:∀ x c,X.env.cells.lookup x=some c->∀ v,s.heap.IsCell c v->h'.IsCell c v:=fun x c e v zz0=>by
  obtain ⟨o,ho,hd⟩:=zz0
  have nch:c∉ch:=fun z=>(hch c z).2.2.1 x c e rfl
  by_cases hc:c∈X.fs
  ·obtain ⟨sl,q⟩:=slot c o (I.cne x c e) hc nch ho (I.freeC x c e)
   exact ⟨_,q,hd⟩
  ·exact ⟨o,keep c o (I.cne x c e) hc nch ho (I.freeC x c e),hd⟩
 refine ⟨I.ok,I.os,hg,⟨fun b o e n hb hx=>?_,fun b o e n hb hx=>?_,fun b o e n hx=>?_,fun b o e hx=>?_,fun b xs e=>tups b xs (I.base.tups b xs e),fun b o xs e=>frzs b o xs (I.base.frzs b o xs e),fun b ps e=>?_⟩,?_,fun x c e=>?_,?_,fun x c e=>?_,fun p hp=>?_,hok,I.len⟩
 ·exact keep b o (neL b o e) hb (neC b o e hx) (I.base.keep b o e n hb hx) (I.base.free b o e n hx)
 ·obtain ⟨sl,e1⟩:=I.base.slot b o e n hb hx
  obtain ⟨sl',e2⟩:=slot b _ (neL b o e) hb (neC b o e hx) e1 (I.base.free b o e n hx)
  exact ⟨sl',e2⟩
 ·obtain ⟨o',e1⟩:=I.base.there b o e hx
  exact free b o' (neC b o e hx) e1 (I.base.free b o e n hx)
 ·obtain ⟨o',e1⟩:=I.base.there b o e hx
  exact there b o' (neC b o e hx) e1
 ·exact tbls b ps (I.base.tbls b ps e)
 ·obtain ⟨m,hn,hl⟩:=I.loc
  refine ⟨m,ns m hn,fun i x v e1 e2 e3=>?_⟩
  obtain ⟨u,r,l⟩:=hl i x v e1 e2 e3
  refine ⟨u,r,?_⟩
  rcases l with l|⟨k,c,e,z⟩
  ·exact .inl l
  ·exact .inr ⟨k,c,e,cellK x c e _ z⟩
 ·obtain ⟨v,z⟩:=I.cell x c e
  exact ⟨v,cellK x c e v z⟩
 ·obtain ⟨m,⟨o,_,_,ho,_⟩,_⟩:=I.loc
  exact free _ o (fun z=>(hch _ z).2.1 rfl) ho I.free
 ·obtain ⟨v,o,ho,hd⟩:=I.cell x c e
  exact free c o (fun z=>(hch c z).2.2.1 x c e rfl) ho (I.freeC x c e)
 ·obtain ⟨e,n,ne,nf,d⟩:=I.pin p hp
  have nch:p.1∉ch:=fun z=>(hch p.1 z).2.2.2 p hp rfl
  exact ⟨keep p.1 p.2 ne nf nch e n,free p.1 p.2 nch e n,ne,nf,d⟩
theorem Inv.un{t':Nat}(I:Inv X pins σ H s)(u:Un X.fs [] H H' s.heap h')(hok:HOk X.prog X.w H' h'):Inv X pins σ H' {s with heap:=h',toks:=t'}:=by
 obtain ⟨m,⟨o,es,ep,ho,r⟩,_⟩:=id I.loc
 obtain ⟨sl,hL⟩:=u.any ho I.free (by simp)
 exact I.step (g':=s.gens) (d':=s.drawn) (ch:=[]) (fun _ z=>nomatch z) (fun b o _ hb _ e n=>u.keep b o e n hb (by simp)) (fun b o _ hb _ e n=>u.slot b o e n hb (by simp)) (fun b o _ e n=>u.free b o e n (by simp)) (fun b o _ e=>u.there b o e (by simp)) u.tups u.frzs u.tbls (fun m' hm=>by
  obtain ⟨o',es',ep',ho',r'⟩:=hm
  rw[ho] at ho';cases ho'
  exact ⟨_,es',ep',hL,r'⟩) hok I.bare
theorem Inv.call{g':Array GenState}{t':Nat}{d':Drawn}{ch:List Addr}(I:Inv X pins σ H s)(u:Un (frs X.stack) ch H H' s.heap h')(hok:HOk X.prog X.w H' h')(hg:AllBare g')
  (hch:∀ b∈ch,(b∈X.ex\/X.s₀.heap.objs.size<=b)/\b≠X.env.locals/\(∀ x c,X.env.cells.lookup x=some c->c≠b)/\∀ p∈X.pn++pins,p.1≠b) :
  Inv X pins σ H' {s with heap:=h',gens:=g',drawn:=d',toks:=t'}:=by
 obtain ⟨m,⟨o,es,ep,ho,r⟩,_⟩:=id I.loc
 obtain ⟨sl,hL⟩:=u.any ho I.free fun z=>(hch _ z).2.1 rfl
 exact I.step (ch:=ch) hch (fun b o hL hb hc e n=>u.keep b o e n (fun z=>(List.mem_cons.mp (I.stkSub b z)).elim hL hb) hc) (fun b o _ _ hc e n=>u.any e n hc) (fun b o hc e n=>u.free b o e n hc) (fun b o hc e=>u.there b o e hc) u.tups u.frzs u.tbls (fun m' hm=>by
  obtain ⟨o',es',ep',ho',r'⟩:=hm
  rw[ho] at ho';cases ho'
  exact ⟨_,es',ep',hL,r'⟩) hok hg
theorem Inv.turned{t':Nat}{it:Addr}(I:Inv X pins σ H s)(k:∀ b o,b≠it->s.heap.get? b=some o->h'.get? b=some o)(hn:H it=none)(hL:it≠X.env.locals)
  (h1:it∈X.ex\/X.s₀.heap.objs.size<=it) (h2:∀ x c,X.env.cells.lookup x=some c->c≠it) (h3:∀ p∈X.pn++pins,p.1≠it):Inv X pins σ H {s with heap:=h',toks:=t'}:=by
 have nit:∀ b u,H b=some u->b≠it:=fun b u e z=>by rw[z,hn] at e;cases e
 refine I.step (g':=s.gens) (d':=s.drawn) (ch:=[it]) (fun b hb=>?_) (fun b o _ _ hc e _=>k b o (fun z=>hc (by simp[z])) e) (fun b o _ _ hc e _=>⟨o.slots,k b o (fun z=>hc (by simp[z])) e⟩) (fun _ _ _ _ n=>n)
  (fun b o hc e=>⟨o,k b o (fun z=>hc (by simp[z])) e⟩) (fun _ _ e=>e) (fun _ _ _ e=>e) (fun _ _ e=>e) (fun m hm=>?_) (fun b u e=>?_) I.bare
 ·have e:b=it:=by simpa using hb
  subst e
  exact ⟨h1,hL,h2,h3⟩
 ·obtain ⟨o,es,ep,ho,r⟩:=hm
  exact ⟨o,es,ep,k _ o (Ne.symm hL) ho,r⟩
 ·refine (I.hok b u e).stay (fun c v hc q=>k c v ?_ q) (fun _ q=>q) (fun _ _ q=>q) fun _ _ q=>q
  rcases hc with z|z
  · rw [z]; exact nit b u e
  · exact nit c _ z
theorem Inv.tok(I:Inv X pins σ H s)(t:Nat):Inv X pins σ H {s with toks:=t}:=I.un (h':=s.heap) (t':=t) Un.refl I.hok
theorem Inv.kept{t':Nat}(I:Inv X pins σ H s)(k:∀ b u,s.heap.get? b=some u->h'.get? b=some u):Inv X pins σ H {s with heap:=h',toks:=t'}:=I.un (Un.kept k) (I.hok.kept k)
theorem Inv.laid{a:Addr}{o:HO}{t':Nat}(I:Inv X pins σ H s)(k:∀ b u,s.heap.get? b=some u->h'.get? b=some u)(hp:s.heap.objs.size<=a)(new:cR X.prog X.w (upd H a o) h' a o) :
 Inv X pins σ (upd H a o) {s with heap:=h',toks:=t'}:=I.un (Un.laid k hp (I.hok.fresh hp)) (I.hok.laid k hp new)
theorem Inv.write{x e:Addr}{o:HO}{t':Nat}(I:Inv X pins σ H s)(mu:Mut (H x))(he:e=x\/H e=some (.own x))(k:∀ b u,b≠e->s.heap.get? b=some u->h'.get? b=some u)(heo:∃ u,h'.get? e=some u)
 (new:cR X.prog X.w (upd H x o) h' x o):Inv X pins σ (upd H x o) {s with heap:=h',toks:=t'}:=I.un (Un.write mu he k heo) (I.hok.write mu he k heo new)
theorem Inv.pins_of{pins':List (Addr×Obj)}(I:Inv X pins σ H s)(h:∀ p∈pins',s.heap.get? p.1=some p.2/\H p.1=none/\p.1≠X.env.locals/\p.1∉X.fs/\∀ v,p.2.data≠.cell v):Inv X pins' σ H s:=
 ⟨I.ok,I.os,I.bare,I.base,I.loc,I.cell,I.free,I.freeC,fun p hp=>(List.mem_append.mp hp).elim (fun z=>I.pin p (List.mem_append_left _ z)) (h p),I.hok,I.len⟩
theorem vX{N:List Str}(hN:N.Nodup){i j:Nat}{x:Str}(a:N[i]? = some x)(b:N[j]? = some x):i=j:=by
 obtain ⟨h1,e1⟩:=List.getElem?_eq_some_iff.mp a
 obtain ⟨h2,e2⟩:=List.getElem?_eq_some_iff.mp b
 exact (List.getElem_inj hN).mp (e1.trans e2.symm)
theorem tW{M:Model}{A:Around}{E:Value->Shared->Prop}{i:Nat}{x:Str}{v:V}{u:Value}{Q:Unit->Shared->Prop}(I:Inv X pins σ H s)(hN:X.N.Nodup)(hi:X.N[i]? = some x)(hx:Loc X.env.scope x)(r:bH v u)
  (h:∀ s',Inv X pins (σ.set i (some v)) H s'->(∃ a,Heap.SameBut a s.heap s'.heap/\(a=X.env.locals\/X.env.cells.lookup x=some a))->Q () s') (hf:X.fn x=true\/X.env.scope.names.lookup x=some .local):wpAny M A (storeName X.env x u) Q E s:=by
 obtain ⟨m,hn,hl⟩:=id I.loc
 have hcls:(X.env.scope.kind == .class || (X.env.scope.kind == .module && X.env.locals != X.env.globals))=false:=by rw[I.ok.kind];rfl
 have hiσ:i < σ.length:=by rw[I.len];exact (List.getElem?_eq_some_iff.mp hi).1
 have cne:=I.cne
 have tracked:∀ {a:Addr} {h':Heap},(∃ o,s.heap.get? a=some o/\H a=none)->Heap.SameBut a s.heap h'->HOk X.prog X.w H h':=fun {a h'} ha hs b ob e=>by
  obtain ⟨_,_,hfree⟩:=ha
  refine (I.hok b ob e).stay (fun c w' hc q=>(hs.2 c ?_).trans q) (fun _ q=>q) (fun _ _ q=>q) fun _ _ q=>q
  rintro rfl
  rcases hc with rfl|hc
  ·rw[hfree] at e;cases e
  ·rw[hfree] at hc;cases hc
 rcases hx with hk|hk
 ·refine wpAny_storeName_local hk hn (fun h' hn' hs=>?_) hcls
  obtain ⟨oL,_,_,hoL,_⟩:=id hn
  refine h _ ⟨I.ok,I.os,I.bare,⟨fun b o e n hb hx=>?_,fun b o e n hb hx=>?_,I.base.free,fun b o e hx=>?_,I.base.tups,I.base.frzs,I.base.tbls⟩,⟨_,hn',fun j y v' e1 e2 e3=>?_⟩,fun y c e=>?_,I.free,I.freeC,fun p hp=>?_,tracked ⟨oL,hoL,I.free⟩ hs,by simpa using I.len⟩ ⟨_,hs,.inl rfl⟩
  ·exact (hs.2 b (Nat.ne_of_lt (Nat.lt_of_lt_of_le (Heap.lt_size e) I.ok.above))).trans (I.base.keep b o e n hb hx)
  ·obtain ⟨sl,e1⟩:=I.base.slot b o e n hb hx
   exact ⟨sl,(hs.2 b (Nat.ne_of_lt (Nat.lt_of_lt_of_le (Heap.lt_size e) I.ok.above))).trans e1⟩
  ·obtain ⟨o',e1⟩:=I.base.there b o e hx
   exact ⟨o',(hs.2 b (Nat.ne_of_lt (Nat.lt_of_lt_of_le (Heap.lt_size e) I.ok.above))).trans e1⟩
  ·by_cases hj:j=i
   ·subst hj
    rw[hi] at e1;cases e1
    rw[List.getElem?_set_self hiσ] at e2
    cases e2
    exact ⟨u,r,.inl ⟨hk,by simp⟩⟩
   ·rw[List.getElem?_set_ne (Ne.symm hj)] at e2
    obtain ⟨u',r',q⟩:=hl j y v' e1 e2 e3
    refine ⟨u',r',?_⟩
    rcases q with ⟨k,e⟩|⟨k,c,e,z⟩
    ·refine .inl ⟨k,?_⟩
     have:y≠x:=fun e=>hj (vX hN e1 (e▸hi))
     simp[this,e]
    ·exact .inr ⟨k,c,e,z.sameBut hs (cne y c e)⟩
  ·obtain ⟨w',z⟩:=I.cell y c e
   exact ⟨w',z.sameBut hs (cne y c e)⟩
  ·obtain ⟨e,n,ne,nf,d⟩:=I.pin p hp
   exact ⟨(hs.2 p.1 ne).trans e,n,ne,nf,d⟩
 ·have hfn:X.fn x=true:=by
   rcases hf with z|z
   ·exact z
   ·rw[z] at hk;cases hk
  obtain ⟨c,hc⟩:=I.ok.has x (.inl hk)
  obtain ⟨w',z⟩:=I.cell x c hc
  refine wpAny_storeName_cell I.ok.kind hk hc z (fun h' hc' hs=>?_)
  obtain ⟨oc,hoc,hocd⟩:=id z
  refine h {s with heap:=h'} ⟨I.ok,I.os,I.bare,⟨fun b o e n hb hx=>?_,fun b o e n hb hx=>?_,I.base.free,fun b o e hx=>?_,I.base.tups,I.base.frzs,I.base.tbls⟩,⟨m,hn.sameBut hs (Ne.symm (cne x c hc)),fun j y v' e1 e2 e3=>?_⟩,fun y c' e=>?_,I.free,I.freeC,fun p hp=>?_,tracked ⟨oc,hoc,I.freeC x c hc⟩ hs,by simpa using I.len⟩ ⟨c,hs,.inr hc⟩
  ·exact (hs.2 b (Nat.ne_of_lt (Nat.lt_of_lt_of_le (Heap.lt_size e) (I.ok.cab x c hfn hc)))).trans (I.base.keep b o e n hb hx)
  ·obtain ⟨sl,e1⟩:=I.base.slot b o e n hb hx
   exact ⟨sl,(hs.2 b (Nat.ne_of_lt (Nat.lt_of_lt_of_le (Heap.lt_size e) (I.ok.cab x c hfn hc)))).trans e1⟩
  ·obtain ⟨o',e1⟩:=I.base.there b o e hx
   exact ⟨o',(hs.2 b (Nat.ne_of_lt (Nat.lt_of_lt_of_le (Heap.lt_size e) (I.ok.cab x c hfn hc)))).trans e1⟩
  ·by_cases hj:j=i
   ·subst hj
    rw[hi] at e1;cases e1
    rw[List.getElem?_set_self hiσ] at e2
    cases e2
    exact ⟨u,r,.inr ⟨.inl hk,c,hc,hc'⟩⟩
   ·rw[List.getElem?_set_ne (Ne.symm hj)] at e2
    obtain ⟨u',r',q⟩:=hl j y v' e1 e2 e3
    refine ⟨u',r',?_⟩
    rcases q with q|⟨k,c',e,z'⟩
    ·exact .inl q
    ·refine .inr ⟨k,c',e,z'.sameBut hs ?_⟩
     rintro rfl
     exact hj (vX hN e1 (I.ok.inj _ _ _ e hc▸hi))
  ·by_cases hcc:c'=c
   ·subst hcc;exact ⟨_,hc'⟩
   ·obtain ⟨w2,z2⟩:=I.cell y c' e
    exact ⟨w2,z2.sameBut hs hcc⟩
  ·obtain ⟨e,n,ne,nf,d⟩:=I.pin p hp
   refine ⟨(hs.2 p.1 ?_).trans e,n,ne,nf,d⟩
   intro q
   rw[q,hoc] at e
   have q':oc=p.2:=Option.some.inj e
   exact d w' (by rw[<-q'];exact hocd)
theorem vY{M:Model}{A:Around}{E:Value->Shared->Prop}{i:Nat}{x:Str}{v:V}{u:Value}{Q:Unit->Shared->Prop}(I:Inv X pins σ H s)(hN:X.N.Nodup)(hi:X.N[i]? = some x)(hx:Loc X.env.scope x)(r:bH v u)
  (h:∀ s',Inv X pins (σ.set i (some v)) H s'->Q () s') (hf:X.fn x=true\/X.env.scope.names.lookup x=some .local):wpAny M A (storeName X.env x u) Q E s:=
 tW I hN hi hx r (fun s' I' _=>h s' I') hf
theorem Inv.call'{s':Shared}{ch:List Addr}(I:Inv X pins σ H s)(ho:s'.os=s.os)(u:Un (frs X.stack) ch H H' s.heap s'.heap)(hok:HOk X.prog X.w H' s'.heap)(hg:AllBare s'.gens)
  (hch:∀ b∈ch,(b∈X.ex\/X.s₀.heap.objs.size<=b)/\b≠X.env.locals/\(∀ x c,X.env.cells.lookup x=some c->c≠b)/\∀ p∈X.pn++pins,p.1≠b):Inv X pins σ H' s':=by
 obtain ⟨h',g',d',t',o'⟩:=s'
 have e:o'=s.os:=ho
 subst e
 exact I.call (g':=g') (t':=t') (d':=d') u hok hg hch
end
abbrev XK:=Value->Option Addr->Hp->Prop
abbrev St:=List (Option V)
abbrev VK:=V->Hp->Prop
abbrev TE:=St->Hp->VK->Prop
abbrev TT:=St->Hp->(Bool->Hp->Prop)->Prop
abbrev TA:=St->Hp->(List V->Hp->Prop)->Prop
structure iQ where
 nx:St->Hp->Prop
 rt:VK
 bk:St->Hp->Prop:=fun _ _=>False
 ct:St->Hp->Prop:=fun _ _=>False
abbrev TS:=iQ->St->Hp->Prop
def EP(X:Cx)(pins:List (Addr×Obj))(σ:St)(Q:VK)(u:Value)(s':Shared):Prop:=∃ v H',Inv X pins σ H' s'/\bH v u/\Q v H'
def TP(X:Cx)(pins:List (Addr×Obj))(σ:St)(Q:Bool->Hp->Prop)(b:Bool)(s':Shared):Prop:=∃ H',Inv X pins σ H' s'/\Q b H'
def AP(X:Cx)(pins:List (Addr×Obj))(σ:St)(Q:List V->Hp->Prop)(us:List Value)(s':Shared):Prop:=∃ vs H',Inv X pins σ H' s'/\bG vs us/\Q vs H'
def SP(X:Cx)(pins:List (Addr×Obj))(D:iQ)(f:Flow)(s':Shared):Prop:=
 match f with
 | .next=>∃ σ' H',Inv X pins σ' H' s'/\D.nx σ' H'
 | .brk=>∃ σ' H',Inv X pins σ' H' s'/\D.bk σ' H'
 | .cont=>∃ σ' H',Inv X pins σ' H' s'/\D.ct σ' H'
 | .ret u=>∃ v σ' H',Inv X pins σ' H' s'/\bH v u/\D.rt v H'
def PE(X:Cx)(e:Expr)(t:TE):Prop:=
 ∀ (pins:List (Addr×Obj)) (s:Shared) (σ:St) (H:Hp) (Q:VK),Inv X pins σ H s->t σ H Q->wpAny (model X.prog X.w) X.A (eval e X.env) (EP X pins σ Q) X.xe s
def PT(X:Cx)(e:Expr)(t:TT):Prop:=
 ∀ (pins:List (Addr×Obj)) (s:Shared) (σ:St) (H:Hp) (Q:Bool->Hp->Prop),Inv X pins σ H s->t σ H Q->wpAny (model X.prog X.w) X.A (isTrue e X.env (eval e X.env)) (TP X pins σ Q) X.xe s
def PW(X:Cx)(e:Expr)(t:TT):Prop:=
 ∀ (whole:Sem Value) (pins:List (Addr×Obj)) (s:Shared) (σ:St) (H:Hp) (Q:Bool->Hp->Prop),Inv X pins σ H s->t σ H Q->wpAny (model X.prog X.w) X.A (isTrue e X.env whole) (TP X pins σ Q) X.xe s
theorem PW.pt{X:Cx}{e:Expr}{t:TT}(h:PW X e t):PT X e t:=h _
def PA(X:Cx)(es:List Expr)(t:TA):Prop:=
 ∀ (pos:Pos) (pins:List (Addr×Obj)) (s:Shared) (σ:St) (H:Hp) (Q:List V->Hp->Prop),Inv X pins σ H s->t σ H Q->wpAny (model X.prog X.w) X.A (spliced (backTo pos (starEach es X.env))) (AP X pins σ Q) X.xe s
def PS(X:Cx)(st:Stmt)(t:TS):Prop:=
 ∀ (pins:List (Addr×Obj)) (s:Shared) (σ:St) (H:Hp) (D:iQ),Inv X pins σ H s->t D σ H->wpAny (model X.prog X.w) X.A (exec st X.env) (SP X pins D) X.xe s
def PSs(X:Cx)(st:List Stmt)(t:TS):Prop:=
 ∀ (pins:List (Addr×Obj)) (s:Shared) (σ:St) (H:Hp) (D:iQ),Inv X pins σ H s->t D σ H->wpAny (model X.prog X.w) X.A (execs st X.env) (SP X pins D) X.xe s
theorem thn{α:Type}{t:Sem α}{Q Q':α->Shared->Prop}{M:Model}{A:Around}{E:Value->Shared->Prop}{s:Shared}(h:wpAny M A t Q E s)(hQ:∀ a s,Q a s->Q' a s):wpAny M A t Q' E s:=wpAny_mono h hQ fun _ _ x=>x
end L2
namespace L2
open PySem PySem.Spec PyProof.Rows
section
variable{X:Cx}
def j9(i:Nat):TE:=fun σ H Q=>∃ v,σ[i]? = some (some v)/\Q v H
def tC(v:V):TE:=fun _ H Q=>Q v H
theorem aH8{i:Nat}{x:Str}{pos:Pos}(hN:X.N[i]? = some x)(hv:Vis X.env.scope x)(hd:(x == ("__debug__":Str))=false:=by decide)(hcd:(x == ("__classdict__":Str))=false:=by decide):PE X (.Name x pos) (j9 i):=by
 intro pins s σ H Q I h
 obtain ⟨v,e,h⟩:=h
 obtain ⟨m,hn,hl⟩:=I.loc
 obtain ⟨u,r,l⟩:=hl i x v hN e hv
 have fin:EP X pins σ Q u s:=⟨v,H,I,r,h⟩
 rcases l with ⟨hk,hm⟩|⟨hk,c,hc,hcell⟩
 ·exact wpAny_Name (wpAny_loadName_local I.ok.kind hk hn hm fin) hd
 ·rcases hk with hk|hk
  · exact wpAny_Name (wpAny_loadName_cell I.ok.kind hk hc hcell fin) hd
  · exact wpAny_Name (wpAny_loadName_free I.ok.kind hk hc hcell fin hcd) hd
theorem aH9{i j pos}:PE X (.Constant (.int i) j pos) (tC (.int i)):=fun _ _ _ H _ I h=>wpAny_Constant_int ⟨.int i,H,I.tok _,⟨_,rfl⟩,h⟩
theorem aKT{b j pos}:PE X (.Constant (.bool b) j pos) (tC (.bl b)):=fun _ _ _ H _ I h=>Constant_bool ⟨.bl b,H,I,rfl,h⟩
theorem aIA{j pos}:PE X (.Constant .none j pos) (tC .non):=fun _ _ _ H _ I h=>Constant_none ⟨.non,H,I,rfl,h⟩
theorem aIB{x j pos}:PE X (.Constant (.str x) j pos) (tC (.str x)):=fun _ _ _ H _ I h=>Calls.Constant_str ⟨.str x,H,I.tok _,⟨_,rfl⟩,h⟩
def Gl(X:Cx)(x:Str):Prop:=X.env.kindOf x=some .globalImplicit
theorem pJ{E:Value->Shared->Prop}{pins:List (Addr×Obj)}{s:Shared}{σ:St}{H:Hp}{x:Str}{u:Value}{pos:Pos}{Q:Value->Shared->Prop}(I:Inv X pins σ H s)(hg:Gl X x)(hm:X.mg x=some u)(h:Q u s)
  (hd:(x == ("__debug__":Str))=false:=by decide):wpAny (model X.prog X.w) X.A (eval (.Name x pos) X.env) Q E s:=
 Calls.Name_function_global I.ok.kind hg (Calls.loadGlobal_global (by rw[I.ok.glob];exact I.mod.glob.keeps I.bk) hm h) hd
theorem j4{E:Value->Shared->Prop}{pins:List (Addr×Obj)}{s:Shared}{σ:St}{H:Hp}{x:Str}{u:Value}{pos:Pos}{Q:Value->Shared->Prop}(I:Inv X pins σ H s)(hg:Gl X x)(hm:X.mg x=none)(hv:bootBuiltins x=some u)(h:Q u s)
  (hn:x≠"__name__":=by decide) (hd:(x == ("__debug__":Str))=false:=by decide):wpAny (model X.prog X.w) X.A (eval (.Name x pos) X.env) Q E s:=by
 obtain ⟨mb,h1,h2⟩:=I.mod.blt
 exact Calls.Name_function_global I.ok.kind hg (Calls.loadGlobal_builtin (by rw[I.ok.glob];exact I.mod.glob.keeps I.bk) hm (by rw[I.ok.blt];exact h1.keeps I.bk) ((h2 x hn).trans hv) h) hd
theorem jF{x:Str}{v:V}{u:Value}{pos:Pos}(hg:Gl X x)(hm:X.mg x=some u)(r:bH v u)(hd:(x == ("__debug__":Str))=false:=by decide):PE X (.Name x pos) (tC v):=
 fun _ _ _ H _ I h=>pJ I hg hm ⟨v,H,I,r,h⟩ hd
theorem sK{x:Str}{v:V}{u:Value}{pos:Pos}(hg:Gl X x)(hm:X.mg x=none)(hv:bootBuiltins x=some u)(r:bH v u)(hn:x≠"__name__":=by decide)(hd:(x == ("__debug__":Str))=false:=by decide):PE X (.Name x pos) (tC v):=
 fun _ _ _ H _ I h=>j4 I hg hm hv ⟨v,H,I,r,h⟩ hn hd
variable{a b:Expr}{ta tb:TE}{pos:Pos}
def PC(X:Cx)(op:CmpOp)(a b:Expr)(t:TE):Prop:=
 ∀ (pins:List (Addr×Obj)) (s:Shared) (σ:St) (H:Hp) (Q:VK),Inv X pins σ H s->t σ H Q->
  wpAny (model X.prog X.w) X.A (eval a X.env) (fun v s₁=>wpAny (model X.prog X.w) X.A (eval b X.env) (fun u s₂=>wpAny (model X.prog X.w) X.A (compareOp op v u) (EP X pins σ Q) X.xe s₂) X.xe s₁) X.xe s
theorem aDC(b:Expr){op:CmpOp}(h:op≠.In)(h2:op≠.NotIn):behindInMarks op b=false:=by
 have e1:(op == CmpOp.In)=false:=by cases op<;>first|rfl|exact absurd rfl h
 have e2:(op == CmpOp.NotIn)=false:=by cases op<;>first|rfl|exact absurd rfl h2
 cases b<;>simp[behindInMarks,e1,e2]
def tB(t:TE):TT:=fun σ H Q=>t σ H fun x H1=>∃ c,x=.bl c/\Q c H1
theorem cO{op:CmpOp}{t:TE}(h:PC X op a b t)(h1:behindInMarks op b=false:=by first|exact aDC _ (by decide) (by decide)|rfl):PT X (.Compare a [op] [b] pos) (tB t):=by
 intro pins s σ H Q I hw
 refine wpAny_isTrue_Compare1 (thn (h pins s σ H _ I hw) fun v s1 h1=>thn h1 fun u s2 h2=>thn h2 fun c s3 zz0=>?_) h1
 obtain ⟨x,H1,I1,r1,q1⟩:=zz0
 obtain ⟨d,rfl,q⟩:=q1
 cases r1
 exact wpAny_truthy_bool ⟨H1,I1,q⟩
theorem l9{e:Expr}{t:TE}(h:PE X e t)(he:∀ whole,isTrue e X.env whole=(do let v <-whole;standAt e.pos;holding [v] (truthy v)):=by intro _;rfl):PT X e (tB t):=by
 intro pins s σ H Q I hw
 refine isTrue_plain (thn (h pins s σ H _ I hw) fun v s1 zz0=>?_) (he _)
 obtain ⟨x,H1,I1,r1,q1⟩:=zz0
 obtain ⟨d,rfl,q⟩:=q1
 cases r1
 exact wpAny_truthy_bool ⟨H1,I1,q⟩
variable{tA tB':TT}{rest:List Expr}
def aIC(t u:TT):TT:=fun σ H Q=>t σ H fun c H1=>if c=true then u σ H1 Q else Q false H1
def tOr(t u:TT):TT:=fun σ H Q=>t σ H fun c H1=>if c=true then Q true H1 else u σ H1 Q
def aL2(t:TT):TT:=fun σ H Q=>t σ H fun c H1=>Q (!c) H1
theorem kN(ha:PT X a tA):PW X (.BoolOp .And [a] pos) tA:=by
 intro wh pins s σ H Q I h
 refine isTrue_and (thn (ha pins s σ H Q I h) fun c s1 e=>?_)
 cases c with
 | true=>exact isTrue_and_nil e
 | false=>exact e
theorem vZ(ha:PT X a tA):PW X (.BoolOp .Or [a] pos) tA:=by
 intro wh pins s σ H Q I h
 refine isTrue_or (thn (ha pins s σ H Q I h) fun c s1 e=>?_)
 cases c with
 | false=>exact isTrue_or_nil e
 | true=>exact e
theorem kQ(ha:PT X a tA)(hb:PW X (.BoolOp .And (b::rest) pos) tB'):PW X (.BoolOp .And (a::b::rest) pos) (aIC tA tB'):=by
 intro wh pins s σ H Q I h
 refine isTrue_and (thn (ha pins s σ H _ I h) fun c s1 zz0=>?_)
 obtain ⟨H1,I1,q1⟩:=zz0
 cases c with
 | true=>exact hb wh pins s1 σ H1 Q I1 q1
 | false=>exact ⟨H1,I1,q1⟩
theorem zN(ha:PT X a tA)(hb:PW X (.BoolOp .Or (b::rest) pos) tB'):PW X (.BoolOp .Or (a::b::rest) pos) (tOr tA tB'):=by
 intro wh pins s σ H Q I h
 refine isTrue_or (thn (ha pins s σ H _ I h) fun c s1 zz0=>?_)
 obtain ⟨H1,I1,q1⟩:=zz0
 cases c with
 | true=>exact ⟨H1,I1,q1⟩
 | false=>exact hb wh pins s1 σ H1 Q I1 q1
theorem q0(ha:PT X a tA):PT X (.UnaryOp .Not a pos) (aL2 tA):=by
 intro pins s σ H Q I h
 exact isTrue_not (ha pins s σ H (fun c H1=>Q (!c) H1) I h)
def aKU(ta tb:TE):TE:=fun σ H Q=>ta σ H fun x H1=>∃ c,x=.bl c/\if c=true then tb σ H1 Q else Q (.bl false) H1
theorem aID{op}{t:TE}(h:PE X a t):PE X (.BoolOp op [a] pos) t:=fun pins s σ H Q I hw=>BoolOp_one (h pins s σ H Q I hw)
theorem aIE(ha:PE X a ta)(hb:PE X (.BoolOp .And (b::rest) pos) tb):PE X (.BoolOp .And (a::b::rest) pos) (aKU ta tb):=by
 intro pins s σ H Q I h
 refine BoolOp_and (thn (ha pins s σ H _ I h) fun v s1 zz0=>?_)
 obtain ⟨x,H1,I1,r1,q1⟩:=zz0
 obtain ⟨c,rfl,q1⟩:=q1
 cases r1
 refine wpAny_truthy_bool ?_
 cases c with
 | true=>exact hb pins s1 σ H1 Q I1 q1
 | false=>exact ⟨.bl false,H1,I1,rfl,q1⟩
def tIf(t:TT)(ta tb:TE):TE:=fun σ H Q=>t σ H fun c H1=>if c=true then ta σ H1 Q else tb σ H1 Q
theorem aDD{c:Expr}(hc:PT X c tA)(ha:PE X a ta)(hb:PE X b tb):PE X (.IfExp c a b pos) (tIf tA ta tb):=by
 intro pins s σ H Q I h
 refine wpAny_IfExp (thn (hc pins s σ H _ I h) fun d s1 zz0=>?_)
 obtain ⟨H1,I1,q1⟩:=zz0
 cases d with
 | true=>exact ha pins s1 σ H1 Q I1 q1
 | false=>exact hb pins s1 σ H1 Q I1 q1
end
end L2
namespace L2
open PySem PySem.Spec PyProof.Rows
def SqL(K:Frag)(H:Hp)(a:Addr)(xs:List V):Prop:=
 Rd H a (.lst xs) \/
  ∃ (o:Obj) (its:Array Value) (n:Nat),K.lookup a=some o/\o.cls=.type "list"/\o.dict=none/\o.data=.seq its n/\its.size<=sizeLine/\bG xs its.toList
def SqT(K:Frag)(H:Hp)(a:Addr)(xs:List V):Prop:=
 Rd H a (.tup xs) \/
  ∃ (o:Obj) (its:Array Value) (n:Nat),K.lookup a=some o/\o.cls=.type "tuple"/\o.data=.seq its n/\its.size<=sizeLine/\bG xs its.toList
noncomputable def aL3:Value->Option V
 | .none=>some .non
 | .bool b=>some (.bl b)
 | .int i _=>some (.int i)
 | .str x _=>some (.str x)
 | .bytes b _=>some (.byt b)
 | .float b _=>some (.flt b)
 | .ref a=>some (.ref a)
 | .type n=>some (.ty n)
 | _=>none
theorem bH.abs{x:V}{u:Value}(r:bH x u):aL3 u=some x:=by
 cases x with
 | non=>cases r;rfl
 | bl _=>cases r;rfl
 | int _=>obtain ⟨t,rfl⟩:=r;rfl
 | str _=>obtain ⟨t,rfl⟩:=r;rfl
 | byt _=>obtain ⟨t,rfl⟩:=r;rfl
 | flt _=>obtain ⟨t,rfl⟩:=r;rfl
 | ref _=>cases r;rfl
 | ty _=>cases r;rfl
theorem bH.inj{x y:V}{u:Value}(r:bH x u)(q:bH y u):x=y:=Option.some.inj (r.abs.symm.trans q.abs)
theorem bG.inj:∀ {xs ys:List V} {us:List Value},bG xs us->bG ys us->xs=ys
 | _,_,_,.nil,.nil=>rfl
 | _,_,_,.cons r t,.cons r' t'=>by rw[r.inj r',bG.inj t t']
section
variable{X:Cx}{pins:List (Addr×Obj)}{σ:St}{H:Hp}{s:Shared}{a:Addr}{xs ys:List V}
theorem SqL.of{K:Frag}(h:H a=some (.lst xs)):SqL K H a xs:=.inl (.inl h)
theorem SqT.of{K:Frag}(h:H a=some (.tup xs)):SqT K H a xs:=.inl (.inl h)
theorem Inv.list(I:Inv X pins σ H s)(h:SqL X.K H a xs):∃ its:List Value,bG xs its/\PlainL s.heap a its.toArray/\xs.length<=sizeLine:=by
 rcases h with h|⟨o,its,n,hk,hc,hd,hs,hz,r⟩
 ·obtain ⟨z,its,n,r,e⟩:=h.ok I.hok
  exact ⟨its,r,⟨_,n,e,rfl,rfl,rfl⟩,z⟩
 ·refine ⟨its.toList,r,⟨o,n,I.kIn a o hk,hc,hd,by simpa using hs⟩,?_⟩
  have e:=r.length
  simp only[Array.length_toList] at e
  omega
theorem Inv.tuple(I:Inv X pins σ H s)(h:SqT X.K H a xs):∃ its:List Value,bG xs its/\IsTup s.heap a its.toArray/\xs.length<=sizeLine:=by
 rcases h with h|⟨o,its,n,hk,hc,hs,hz,r⟩
 ·obtain ⟨z,its,r,p⟩:=h.ok I.hok
  exact ⟨its,r,p,z⟩
 ·refine ⟨its.toList,r,⟨o,I.kIn a o hk,hc,n,by simpa using hs⟩,?_⟩
  have e:=r.length
  simp only[Array.length_toList] at e
  omega
theorem Inv.list_inj(I:Inv X pins σ H s)(h:SqL X.K H a xs)(h':SqL X.K H a ys):xs=ys:=by
 obtain ⟨its,r,⟨o,n,e,_,_,d⟩,_⟩:=I.list h
 obtain ⟨its',r',⟨o',n',e',_,_,d'⟩,_⟩:=I.list h'
 rw[e] at e';cases e'
 rw[d] at d'
 injection d' with d1 _
 have:its=its':=by simpa using congrArg Array.toList d1
 subst this
 exact r.inj r'
theorem Inv.tuple_inj(I:Inv X pins σ H s)(h:SqT X.K H a xs)(h':SqT X.K H a ys):xs=ys:=by
 obtain ⟨its,r,⟨o,e,_,n,d⟩,_⟩:=I.tuple h
 obtain ⟨its',r',⟨o',e',_,n',d'⟩,_⟩:=I.tuple h'
 rw[e] at e';cases e'
 rw[d] at d'
 injection d' with d1 _
 have:its=its':=by simpa using congrArg Array.toList d1
 subst this
 exact r.inj r'
end
abbrev Cx.wish(X:Cx)(E:Value->Shared->Prop):Cx:={X with xe:=E}
abbrev Cx.nox(X:Cx):Cx:=X.wish fun _ _=>False
theorem Cx.Ok.wish{X:Cx}(ok:X.Ok)(E:Value->Shared->Prop):(X.wish E).Ok:=
 ⟨ok.mod,ok.kind,ok.glob,ok.blt,ok.above,ok.inj,ok.has,ok.cab,ok.hd,ok.frames,ok.stk,ok.exf,ok.bs,ok.bsz,ok.noex,ok.exfs,ok.funs,ok.frf⟩
theorem Cx.Ok.unwish{X:Cx}{E:Value->Shared->Prop}(ok:(X.wish E).Ok):X.Ok:=
 ⟨ok.mod,ok.kind,ok.glob,ok.blt,ok.above,ok.inj,ok.has,ok.cab,ok.hd,ok.frames,ok.stk,ok.exf,ok.bs,ok.bsz,ok.noex,ok.exfs,ok.funs,ok.frf⟩
section
variable{X:Cx}{pins:List (Addr×Obj)}{σ:St}{H:Hp}{s:Shared}{E:Value->Shared->Prop}
theorem Inv.wish(I:Inv X pins σ H s)(E:Value->Shared->Prop):Inv (X.wish E) pins σ H s:=⟨I.ok.wish E,I.os,I.bare,I.base,I.loc,I.cell,I.free,I.freeC,I.pin,I.hok,I.len⟩
theorem Inv.unwish(I:Inv (X.wish E) pins σ H s):Inv X pins σ H s:=⟨I.ok.unwish,I.os,I.bare,I.base,I.loc,I.cell,I.free,I.freeC,I.pin,I.hok,I.len⟩
theorem SP.unwish{D:iQ}{f:Flow}{s':Shared}(h:SP (X.wish E) pins D f s'):SP X pins D f s':=by
 cases f with
 | next=>obtain ⟨σ',H',I,q⟩:=h;exact ⟨σ',H',I.unwish,q⟩
 | brk=>obtain ⟨σ',H',I,q⟩:=h;exact ⟨σ',H',I.unwish,q⟩
 | cont=>obtain ⟨σ',H',I,q⟩:=h;exact ⟨σ',H',I.unwish,q⟩
 | ret u=>obtain ⟨v,σ',H',I,r,q⟩:=h;exact ⟨v,σ',H',I.unwish,r,q⟩
theorem PE.nox{e:Expr}{t:TE}(h:PE X.nox e t):PE X e t:=fun pins s σ H Q I hw=>
 wpAny_mono (h pins s σ H Q (I.wish _) hw) (fun _ _ ⟨v,H',I',r,q⟩=>⟨v,H',I'.unwish,r,q⟩) fun _ _ z=>False.elim z
theorem PT.nox{e:Expr}{t:TT}(h:PT X.nox e t):PT X e t:=fun pins s σ H Q I hw=>
 wpAny_mono (h pins s σ H Q (I.wish _) hw) (fun _ _ ⟨H',I',q⟩=>⟨H',I'.unwish,q⟩) fun _ _ z=>False.elim z
theorem PSs.nox{st:List Stmt}{t:TS}(h:PSs X.nox st t):PSs X st t:=fun pins s σ H D I hw=>
 wpAny_mono (h pins s σ H D (I.wish _) hw) (fun _ _ q=>q.unwish) fun _ _ z=>False.elim z
end
section
variable{X:Cx}{st:Stmt}{rest:List Stmt}{t u:TS}{e:Expr}{te:TE}{pos:Pos}
def aKV:TS:=fun D σ H=>D.nx σ H
def aL4(t u:TS):TS:=fun D σ H=>t {D with nx:=u D} σ H
theorem cJ:PSs X [] aKV:=fun _ _ σ H _ I h=>wpAny_execs_nil ⟨σ,H,I,h⟩
theorem aE(h1:PS X st t)(h2:PSs X rest u):PSs X (st::rest) (aL4 t u):=by
 intro pins s σ H D I h
 refine wpAny_execs_cons (thn (h1 pins s σ H {D with nx:=u D} I h) fun f s1 q=>?_)
 cases f with
 | next=>
  obtain ⟨σ',H',I',q⟩:=q
  exact h2 pins s1 σ' H' D I' q
 | ret v=>exact q
 | brk=>exact q
 | cont=>exact q
theorem aR(h1:PS X st t):PSs X [st] t:=by
 intro pins s σ H D I h
 refine wpAny_execs_cons (thn (h1 pins s σ H D I h) fun f s1 q=>?_)
 cases f with
 | next=>exact wpAny_execs_nil q
 | ret v=>exact q
 | brk=>exact q
 | cont=>exact q
theorem Inv.quiet{pins:List (Addr×Obj)}{σ:St}{H:Hp}{s:Shared}(I:Inv X pins σ H s):interactive X.env=false:=by simp[interactive,I.ok.kind]
def vE(te:TE):TS:=fun D σ H=>te σ H fun _ H1=>D.nx σ H1
theorem eO(he:PE X e te)(hs:swapsWith e none pos.line X.env=pure false:=by rfl):PS X (.Expr e pos) (vE te):=by
 intro pins s σ H D I h
 exact wpAny_Expr_any (thn (he pins s σ H _ I h) fun v s1 ⟨x,H1,I1,r1,q1⟩=>⟨σ,H1,I1,q1⟩) I.quiet hs
def aL5(te:TE):TS:=fun D σ H=>te σ H D.rt
theorem bM(he:PE X e te):PS X (.Return (some e) pos) (aL5 te):=by
 intro pins s σ H D I h
 exact wpAny_Return_some (thn (he pins s σ H _ I h) fun v s1 ⟨x,H1,I1,r1,q1⟩=>⟨x,σ,H1,I1,r1,q1⟩)
def aL6(c:TT)(t u:TS):TS:=fun D σ H=>c σ H fun b H1=>if b=true then t D σ H1 else u D σ H1
theorem dH{c:Expr}{a b:List Stmt}{tc:TT}(hc:PT X c tc)(ha:PSs X a t)(hb:PSs X b u):PS X (.If c a b pos) (aL6 tc t u):=by
 intro pins s σ H D I h
 refine wpAny_If (thn (hc pins s σ H _ I h) fun d s1 zz0=>?_)
 obtain ⟨H1,I1,q1⟩:=zz0
 cases d with
 | true=>exact ha pins s1 σ H1 D I1 q1
 | false=>exact hb pins s1 σ H1 D I1 q1
end
abbrev TG:=V->St->Hp->(St->Hp->Prop)->Prop
abbrev TGs:=List V->St->Hp->(St->Hp->Prop)->Prop
def PG(X:Cx)(target:Expr)(t:TG):Prop:=
 ∀ (pins:List (Addr×Obj)) (s:Shared) (σ:St) (H:Hp) (v:V) (u:Value) (Q:St->Hp->Prop),Inv X pins σ H s->bH v u->t v σ H Q->
  wpAny (model X.prog X.w) X.A (assign target X.env u) (fun _ s'=>∃ σ' H',Inv X pins σ' H' s'/\Q σ' H') X.xe s
def PGs(X:Cx)(ts:List Expr)(t:TGs):Prop:=
 ∀ (pins:List (Addr×Obj)) (s:Shared) (σ:St) (H:Hp) (vs:List V) (us:List Value) (Q:St->Hp->Prop),Inv X pins σ H s->bG vs us->t vs σ H Q->
  wpAny (model X.prog X.w) X.A (assignInOrder ((assignEach ts X.env).map (·.2)) us) (fun _ s'=>∃ σ' H',Inv X pins σ' H' s'/\Q σ' H') X.xe s
abbrev zO:=V->V->V->Hp->(Hp->Prop)->Prop
def aIF(X:Cx)(t:zO):Prop:=
 ∀ (pins:List (Addr×Obj)) (s:Shared) (σ:St) (H:Hp) (o i v:V) (ov iv u:Value) (Q:Hp->Prop),Inv X pins σ H s->bH o ov->bH i iv->bH v u->t o i v H Q->
  wpAny (model X.prog X.w) X.A (setItem ov iv u) (fun _ s'=>∃ H',Inv X pins σ H' s'/\Q H') X.xe s
section
variable{X:Cx}{pos:Pos}
def jW(i:Nat):TG:=fun v σ H Q=>Q (σ.set i (some v)) H
theorem cE{i:Nat}{x:Str}(hN:X.N.Nodup)(hi:X.N[i]? = some x)(hx:Loc X.env.scope x)(hf:X.fn x=true\/X.env.scope.names.lookup x=some .local:=by first|exact .inl rfl|exact .inr rfl):PG X (.Name x pos) (jW i):=by
 intro pins s σ H v u Q I r h
 exact wpAny_assign_Name (vY I hN hi hx r (fun s' I'=>⟨_,H,I',h⟩) hf)
def aDE:TGs:=fun vs σ H Q=>vs=[]/\Q σ H
def aFH(t:TG)(u:TGs):TGs:=fun vs σ H Q=>∃ v r,vs=v::r/\t v σ H fun σ' H'=>u r σ' H' Q
theorem jG:PGs X [] aDE:=by
 intro pins s σ H vs us Q I r h
 obtain ⟨e,h⟩:=h
 subst e
 cases r
 exact assignInOrder_nil ⟨σ,H,I,h⟩
theorem dJ{e:Expr}{es:List Expr}{t:TG}{u:TGs}(h1:PG X e t)(h2:PGs X es u)
  (hs:(assignEach (e::es) X.env).map (·.2)=assign e X.env::(assignEach es X.env).map (·.2):=by rfl):PGs X (e::es) (aFH t u):=by
 intro pins s σ H vs us Q I r h
 obtain ⟨v,vr,e1,h⟩:=h
 subst e1
 cases r with
 | cons r rr=>
  rw[hs]
  refine assignInOrder_cons (thn (h1 pins s σ H _ _ _ I r h) fun _ s1 zz0=>?_)
  obtain ⟨σ1,H1,I1,q1⟩:=zz0
  exact h2 pins s1 σ1 H1 _ _ Q I1 rr q1
def aIG(K:Frag)(n:Nat)(t:TGs):TG:=fun v σ H Q=>∃ a xs,v=.ref a/\SqT K H a xs/\xs.length=n/\t xs σ H Q
theorem kR{es:List Expr}{k:Nat}{t:TGs}{n:Nat}(hc:X.calm=true)(h:PGs X es t)
  (hn:(assignEach es X.env).length=n:=by rfl) (hst:(assignEach es X.env).findIdx? (·.1)=none:=by rfl):PG X (.Tuple es k pos) (aIG X.K n t):=by
 intro pins s σ H v u Q I r hw
 obtain ⟨a,xs,e1,hq,hl,hw⟩:=hw
 subst e1
 cases r
 obtain ⟨its,rv,ht,hz⟩:=I.tuple hq
 refine assign_Tuple_tuple (I.ok.hd hc) ht (by simp[hn,<-hl,rv.length]) hst fun h' hx=>?_
 have I1:Inv X pins σ H {s with heap:=h'}:=I.kept (t':=s.toks) fun b o e=>hx b o (Nat.ne_of_lt (Heap.lt_size e)) e
 exact h pins _ σ H xs _ Q I1 (by simpa using rv) hw
def aIH(to ti:TE)(t:zO):TG:=fun v σ H Q=>to σ H fun o H1=>ti σ H1 fun i H2=>t o i v H2 fun H3=>Q σ H3
theorem aII{o i:Expr}{to ti:TE}{t:zO}(ho:PE X o to)(hi:PE X i ti)(hs:aIF X t)
  (ha:∀ v,assign (.Subscript o i pos) X.env v=(do
   let ov <-holding [v] (eval o X.env)
   let iv <-holding [v,ov] (eval i X.env)
   standAt pos
   holding [v,ov,iv] (setItem ov iv v)
   release [v,ov,iv] []):=by intro _;rfl):PG X (.Subscript o i pos) (aIH to ti t):=by
 intro pins s σ H v u Q I r h
 rw[ha]
 refine wpAny_bind (wpAny_holding (thn (ho pins s σ H _ I h) fun ov s1 zz0=>?_))
 obtain ⟨x,H1,I1,r1,q1⟩:=zz0
 refine wpAny_bind (wpAny_holding (thn (hi pins s1 σ H1 _ I1 q1) fun iv s2 zz0=>?_))
 obtain ⟨y,H2,I2,r2,q2⟩:=zz0
 refine wpAny_bind (wpAny_standAt (wpAny_bind (wpAny_holding (thn (hs pins s2 σ H2 x y v ov iv u _ I2 r1 r2 r q2) fun _ s3 zz0=>?_))))
 obtain ⟨H3,I3,q3⟩:=zz0
 exact wpAny_release ⟨σ,H3,I3,q3⟩
def l3(te:TE)(g:TG):TS:=fun D σ H=>te σ H fun x H1=>g x σ H1 D.nx
theorem mB{tg e:Expr}{te:TE}{g:TG}(he:PE X e te)(hg:PG X tg g)(hs:swapsWithSole [tg] e pos.line X.env=pure false:=by rfl)(hw:swappedStores [tg] e X.env=pure none:=by rfl)
  (h1:(assignEach [tg] X.env).map (·.2)=[assign tg X.env]:=by rfl):PS X (.Assign [tg] e pos) (l3 te g):=by
 intro pins s σ H D I h
 refine wpAny_Assign_stores (thn (he pins s σ H _ I h) fun v s1 zz0=>?_) hs hw
 obtain ⟨x,H1,I1,r1,q1⟩:=zz0
 rw[h1]
 exact thn (hg pins s1 σ H1 x v _ I1 r1 q1) fun _ s2 q=>q
theorem aJ{i:Nat}{x:Str}{e:Expr}{te:TE}{pos':Pos}(hN:X.N.Nodup)(hi:X.N[i]? = some x)(hx:Loc X.env.scope x)(he:PE X e te)(hs:swapsWith e (some (.Name x pos')) pos.line X.env=pure false:=by rfl)(hf:X.fn x=true\/X.env.scope.names.lookup x=some .local:=by exact .inl rfl) :
  PS X (.Assign [.Name x pos'] e pos) (l3 te (jW i)):=by
 intro pins s σ H D I h
 refine wpAny_Assign_Name (thn (he pins s σ H _ I h) fun v s1 zz0=>?_) hs
 obtain ⟨y,H1,I1,r1,q1⟩:=zz0
 exact vY I1 hN hi hx r1 (fun s2 I2=>⟨_,H1,I2,q1⟩) hf
end
section
variable{X:Cx}{pos:Pos}
def aBB(c:TT)(tb:TS):TS:=fun D σ H=>∃ W:Nat->St->Hp->Prop,(∃ m,W m σ H)/\∀ m σ H,W m σ H->
 c σ H fun b H1=>if b=true then ∃ N:St->Hp->Prop,(∀ σ' H',N σ' H'->∃ m',m' < m/\W m' σ' H')/\tb {D with nx:=N,ct:=N,bk:=D.nx} σ H1 else D.nx σ H1
theorem kS{c:Expr}{body:List Stmt}{tc:TT}{tb:TS}(hp:PassesOwn (model X.prog X.w) X.A X.env X.xe)(hc:PT X c tc)(hb:PSs X body tb):PS X (.While c body [] pos) (aBB tc tb):=by
 intro pins s σ H D I h
 obtain ⟨W,⟨m0,w0⟩,turn⟩:=h
 refine wpAny_While (codeAny_whileLoop (fun n s'=>∃ σ' H',Inv X pins σ' H' s'/\W n σ' H') ?_ m0 ⟨σ,H,I,w0⟩)
 rintro n s1 ⟨σ1,H1,I1,w1⟩
 refine wpAny_passesOwn hp (thn (hc pins s1 σ1 H1 _ I1 (turn n σ1 H1 w1)) fun b s2 zz0=>?_)
 obtain ⟨H2,I2,q2⟩:=zz0
 cases b with
 | true=>
  obtain ⟨N,hN,q2⟩:=q2
  rw[if_pos rfl]
  refine wpAny_passesOwn hp (thn (hb pins s2 σ1 H2 _ I2 q2) fun f s3 q3=>?_)
  cases f with
  | next=>
   obtain ⟨σ3,H3,I3,n3⟩:=q3
   obtain ⟨m',hm,w3⟩:=hN σ3 H3 n3
   exact ⟨m',hm,σ3,H3,I3,w3⟩
  | cont=>
   obtain ⟨σ3,H3,I3,n3⟩:=q3
   obtain ⟨m',hm,w3⟩:=hN σ3 H3 n3
   exact ⟨m',hm,σ3,H3,I3,w3⟩
  | brk=>exact q3
  | ret v=>exact q3
 | false=>
  rw[if_neg Bool.false_ne_true]
  exact wpAny_execs_nil ⟨σ1,H2,I2,q2⟩
end
structure It where
 go:Nat->Hp->Prop
 yld:Nat->Hp->V->Hp->Prop
 stop:Nat->Hp->Prop
def hU(X:Cx)(pins:List (Addr×Obj))(H:Hp)(b:Addr):Prop:=
 H b=none/\b≠X.env.locals/\b∉X.fs/\(b∈X.ex\/X.s₀.heap.objs.size<=b)/\(∀ x c,X.env.cells.lookup x=some c->c≠b)/\∀ p∈X.pn++pins,p.1≠b
theorem Inv.fpOk{X:Cx}{pins:List (Addr×Obj)}{σ:St}{H H':Hp}{s:Shared}{b:Addr}(I:Inv X pins σ H s)(hb:s.heap.objs.size<=b)(hn:H' b=none):hU X pins H' b:=by
 refine ⟨hn,Nat.ne_of_gt (Nat.lt_of_lt_of_le I.lt hb),I.nofs hb,.inr (Nat.le_trans I.sz hb),fun x c e z=>?_,fun p hp z=>?_⟩
 ·obtain ⟨v,q⟩:=I.cell x c e
  exact absurd (Nat.lt_of_lt_of_le q.lt (by rw[z];exact hb)) (Nat.lt_irrefl _)
 ·exact absurd (Nat.lt_of_lt_of_le (Heap.lt_size (I.pin p hp).1) (by rw[z];exact hb)) (Nat.lt_irrefl _)
structure Turn(P:Program)(w:World)(K:Frag)(tg:Expr)(J:It)(fp:List Addr)(it:Addr)(tn:Nat->Heap->Prop):Prop where
 mem:it∈fp
 obj:∀ i h,tn i h->∀ b∈fp,∃ o,h.get? b=some o/\∀ v,o.data≠.cell v
 keep:∀ i h h',tn i h->(∀ b∈fp,∀ o,h.get? b=some o->h'.get? b=some o)->tn i h'
 item:∀ (X:Cx),X.prog=P->X.w=w->X.K=K->X.calm=true->∀ (i:Nat) (pins:List (Addr×Obj)) (s:Shared) (σ:St) (H:Hp) (E:Value->Shared->Prop),Inv X pins σ H s->(∀ b∈fp,hU X pins H b)->tn i s.heap->J.go i H->
  wpAny (model P w) X.A (pyNext (.ref it)) (fun r s1=>∃ u,r=some u /\
   wpAny (model P w) X.A (letOwnedTupleGo tg (.ref it) u) (fun _ s2=>∃ x H',Inv X pins σ H' s2/\bH x u/\J.yld i H x H'/\tn (i+1) s2.heap/\∀ b∈fp,H' b=none) E s1) E s
 done:∀ (X:Cx),X.prog=P->X.w=w->X.K=K->X.calm=true->∀ (i:Nat) (pins:List (Addr×Obj)) (s:Shared) (σ:St) (H:Hp) (E:Value->Shared->Prop),Inv X pins σ H s->(∀ b∈fp,hU X pins H b)->tn i s.heap->J.stop i H->
  wpAny (model P w) X.A (pyNext (.ref it)) (fun r s1=>r=none/\Inv X pins σ H s1) E s
 self:∀ (A:Around) (i:Nat) (s:Shared) (Q:Value->Shared->Prop) (E:Value->Shared->Prop),tn i s.heap->Q (.ref it) s->wpAny (model P w) A (pyIter (.ref it)) Q E s
abbrev TI:=St->Hp->(It->Hp->Prop)->Prop
def PIE(X:Cx)(pins:List (Addr×Obj))(σ:St)(tg:Expr)(R:It->Hp->Prop)(itv:Value)(s2:Shared):Prop:=
 ∃ (it:Addr) (fp:List Addr) (tn:Nat->Heap->Prop) (J:It) (H':Hp),itv=.ref it/\Inv X pins σ H' s2/\Turn X.prog X.w X.K tg J fp it tn/\tn 0 s2.heap/\(∀ b∈fp,hU X pins H' b)/\R J H'
def PI(X:Cx)(tg iter:Expr)(wi:TI):Prop:=
 ∀ (pins:List (Addr×Obj)) (s:Shared) (σ:St) (H:Hp) (R:It->Hp->Prop),Inv X pins σ H s->wi σ H R->
  wpAny (model X.prog X.w) X.A (eval iter X.env) (fun v s1=>wpAny (model X.prog X.w) X.A (pyIter v) (PIE X pins σ tg R) X.xe s1) X.xe s
theorem vF {M : Model} {A : Around} {E : Value -> Shared -> Prop} {s : Shared} {tg : Expr} {it : Addr} {u : Value} {o : Obj} {n : String} {vs : Array Value} {Q : Unit -> Shared -> Prop} (ho : s.heap.get? it = some o) (hc : o.cls = .type n) (hd : o.data = .fields vs)
    (hn : ["enumerate", "zip", "dict_itemiterator", "dict_reverseitemiterator", "odict_iterator", "itertools.zip_longest", "itertools.pairwise"].contains n = false) (hQ : Q () s) : wpAny M A (letOwnedTupleGo tg (.ref it) u) Q E s := by
  unfold letOwnedTupleGo
  cases tg <;> first
    | exact wpAny_pure hQ
    | (cases u <;> first
        | exact wpAny_pure hQ
        | (refine wpAny_bind (wpAny_load ho ?_)
           rw [hc, hd]
           show wpAny M A (if (["enumerate", "zip", "dict_itemiterator", "dict_reverseitemiterator", "odict_iterator", "itertools.zip_longest", "itertools.pairwise"].contains n && vs[0]? == some (rawInt _)) = true then _ else _) Q E s
           rw [if_neg (by intro h; rw [hn, Bool.false_and] at h; cases h)]
           exact wpAny_pure hQ))
def Itl(K:Frag)(a:Addr):It:=
 ⟨fun i H=>∃ xs x,SqL K H a xs/\xs[i]? = some x,fun i H x H'=>H'=H/\∀ xs,SqL K H a xs->xs[i]? = some x,fun i H=>∃ xs,SqL K H a xs/\xs.length<=i⟩
def Itt(K:Frag)(a:Addr):It:=
 ⟨fun i H=>∃ xs x,SqT K H a xs/\xs[i]? = some x,fun i H x H'=>H'=H/\∀ xs,SqT K H a xs->xs[i]? = some x,fun i H=>∃ xs,SqT K H a xs/\xs.length<=i⟩
noncomputable def Itr(lo:Int)(n:Nat):It:=⟨fun i _=>i < n,fun i H x H'=>H'=H/\x=.int (lo+i),fun i _=>n<=i⟩
theorem aBC{P:Program}{w:World}{K:Frag}{tg:Expr}(a it:Addr):Turn P w K tg (Itl K a) [it] it (fun i h=>h.IsListIter it a i) where
 mem:=by simp
 obj:=fun i h st b hb=>by
  have e:b=it:=by simpa using hb
  subst e
  obtain ⟨o,e,c,d⟩:=st
  exact ⟨o,e,fun v z=>by rw[d] at z;cases z⟩
 keep:=fun i h h' st k=>st.at fun o e=>k it (by simp) o e
 item:=by
  intro X hP hw hK hc i pins s σ H E I hf st hg
  subst hP hw hK
  obtain ⟨xs,x,hq,hx⟩:=hg
  obtain ⟨its,rv,p,hz⟩:=I.list hq
  obtain ⟨u,hu,ru⟩:=rv.get hx
  obtain ⟨f0,f1,f2,f3,f4,f5⟩:=hf it (by simp)
  refine wpAny_pyNext_list_item st p.isList (x:=u) (by simpa using hu) fun h' st' sb=>?_
  have I1:Inv X pins σ H {s with heap:=h'}:=I.turned (t':=s.toks) (fun b o hb e=>(sb.2 b hb).trans e) f0 f1 f3 f4 f5
  obtain ⟨o,e,c,d⟩:=id st'
  exact ⟨u,rfl,vF (s:={s with heap:=h'}) e c d (by decide) ⟨x,H,I1,ru,⟨rfl,fun ys hy=>by rw[I.list_inj hy hq];exact hx⟩,st',fun b hb=>(hf b hb).1⟩⟩
 done:=by
  intro X hP hw hK hc i pins s σ H E I hf st hg
  subst hP hw hK
  obtain ⟨xs,hq,hx⟩:=hg
  obtain ⟨its,rv,p,hz⟩:=I.list hq
  obtain ⟨f0,f1,f2,f3,f4,f5⟩:=hf it (by simp)
  have hl:=rv.length
  exact wpAny_pyNext_list_end (I.ok.hd hc) st p.isList (by simp;omega) fun h' eb=>⟨rfl,I.turned (t':=s.toks) (fun b o hb e=>eb b o hb e) f0 f1 f3 f4 f5⟩
 self:=fun _ _ _ _ _ st h=>wpAny_pyIter_listiter st h
theorem zP{P:Program}{w:World}{K:Frag}{tg:Expr}(a it:Addr):Turn P w K tg (Itt K a) [it] it (fun i h=>h.IsTupleIter it a i) where
 mem:=by simp
 obj:=fun i h st b hb=>by
  have e:b=it:=by simpa using hb
  subst e
  obtain ⟨o,e,c,d⟩:=st
  exact ⟨o,e,fun v z=>by rw[d] at z;cases z⟩
 keep:=fun i h h' st k=>st.at fun o e=>k it (by simp) o e
 item:=by
  intro X hP hw hK hc i pins s σ H E I hf st hg
  subst hP hw hK
  obtain ⟨xs,x,hq,hx⟩:=hg
  obtain ⟨its,rv,p,hz⟩:=I.tuple hq
  obtain ⟨u,hu,ru⟩:=rv.get hx
  obtain ⟨f0,f1,f2,f3,f4,f5⟩:=hf it (by simp)
  refine wpAny_pyNext_tuple_item st (show s.heap.IsTuple a its.toArray from p) (x:=u) (by simpa using hu) fun h' st' sb=>?_
  have I1:Inv X pins σ H {s with heap:=h'}:=I.turned (t':=s.toks) (fun b o hb e=>(sb.2 b hb).trans e) f0 f1 f3 f4 f5
  obtain ⟨o,e,c,d⟩:=id st'
  exact ⟨u,rfl,vF (s:={s with heap:=h'}) e c d (by decide) ⟨x,H,I1,ru,⟨rfl,fun ys hy=>by rw[I.tuple_inj hy hq];exact hx⟩,st',fun b hb=>(hf b hb).1⟩⟩
 done:=by
  intro X hP hw hK hc i pins s σ H E I hf st hg
  subst hP hw hK
  obtain ⟨xs,hq,hx⟩:=hg
  obtain ⟨its,rv,p,hz⟩:=I.tuple hq
  obtain ⟨f0,f1,f2,f3,f4,f5⟩:=hf it (by simp)
  have hl:=rv.length
  exact wpAny_pyNext_tuple_end (I.ok.hd hc) st (show s.heap.IsTuple a its.toArray from p) (by simp;omega) fun h' eb=>⟨rfl,I.turned (t':=s.toks) (fun b o hb e=>eb b o hb e) f0 f1 f3 f4 f5⟩
 self:=fun _ _ _ _ _ st h=>wpAny_pyIter_tupleiter st h
theorem zQ{P:Program}{w:World}{K:Frag}{tg:Expr}(it:Addr)(lo:Int)(n:Nat):Turn P w K tg (Itr lo n) [it] it (fun i h=>IsRangeIter h it (lo+(i:Nat) * 1) ((n:Int) - (i:Nat)) 1) where
 mem:=by simp
 obj:=fun i h st b hb=>by
  have e:b=it:=by simpa using hb
  subst e
  exact ⟨_,st,fun v z=>by
   have z':Data.fields _=Data.cell v:=z
   cases z'⟩
 keep:=fun i h h' st k=>k it (by simp) _ st
 item:=by
  intro X hP hw hK hc i pins s σ H E I hf st hg
  subst hP hw hK
  obtain ⟨f0,f1,f2,f3,f4,f5⟩:=hf it (by simp)
  have W:=Walks.range (prog:=X.prog) (w:=X.w) (I.ok.hd hc) it lo 1 n
  refine W.item i s _ _ hg st fun v h' tk hv st' kk=>?_
  obtain ⟨t,rfl⟩:=hv
  have I1:Inv X pins σ H {s with heap:=h',toks:=tk}:=I.turned (fun b o hb e=>kk b o (by simpa using hb) e) f0 f1 f3 f4 f5
  refine ⟨_,rfl,vF (s:={s with heap:=h',toks:=tk}) (n:="range_iterator") st' rfl rfl (by decide) ⟨.int (lo+i),H,I1,⟨t,?_⟩,⟨rfl,rfl⟩,st',fun b hb=>(hf b hb).1⟩⟩
  rw[Int.mul_one]
 done:=by
  intro X hP hw hK hc i pins s σ H E I hf st hg
  subst hP hw hK
  obtain ⟨f0,f1,f2,f3,f4,f5⟩:=hf it (by simp)
  exact wpAny_pyNext_range_end (I.ok.hd hc) st (by have:n<=i:=hg;omega) fun h' eb=>⟨rfl,I.turned (t':=s.toks) (fun b o hb e=>eb b o hb e) f0 f1 f3 f4 f5⟩
 self:=fun _ _ _ _ _ st h=>wpAny_pyIter_rangeiter st h
end L2
namespace L2
open PySem PySem.Spec PyProof.Rows
section
variable{X:Cx}{tg:Expr}
theorem v5{pins:List (Addr×Obj)}{σ:St}{H:Hp}{s:Shared}{R:It->Hp->Prop}{E:Value->Shared->Prop}{lo hi:Int}{t u v:Tok}{tk:Nat}(I:Inv X pins σ H s)(h1 : -(2 ^ 62)<=lo)(h2:lo < 2 ^ 62)(h3 : -(2 ^ 62)<=hi)(h4:hi < 2 ^ 62)
  (q:R (Itr lo (hi - lo).toNat) H):wpAny (model X.prog X.w) X.A (pyIter (.ref s.heap.objs.size)) (PIE X pins σ tg R) E {s with heap:=s.heap.push {cls:=.type "range",data:=.fields #[.int lo t,.int hi u,.int 1 v]},toks:=tk}:=by
 refine wpAny_pyIter_range (IsRange.new ..) (small_one h1 h2 h3 h4) ?_
 have I1:Inv X pins σ H {s with heap:=s.heap.push {cls:=.type "range",data:=.fields #[.int lo t,.int hi u,.int 1 v]},toks:=tk}:=I.kept fun b o e=>Heap.get?_push_of_some _ e
 refine ⟨(s.heap.push {cls:=.type "range",data:=.fields #[.int lo t,.int hi u,.int 1 v]}).objs.size,[(s.heap.push {cls:=.type "range",data:=.fields #[.int lo t,.int hi u,.int 1 v]}).objs.size],_,_,H,rfl,
  I1.kept (t':=tk) fun b o e=>Heap.get?_push_of_some _ e,zQ _ lo (hi - lo).toNat,?_,fun b hb=>?_,q⟩
 ·have e1:lo+((0:Nat):Int) * 1=lo:=by simp
  have e2:(((hi - lo).toNat:Nat):Int) - ((0:Nat):Int)=Builtin.Range.rangeSize lo hi 1:=by rw[rangeSize_one];split<;>omega
  show IsRangeIter _ _ (lo+((0:Nat):Int) * 1) ((((hi - lo).toNat:Nat):Int) - ((0:Nat):Int)) 1
  rw[e1,e2]
  exact Heap.get?_push_size _ rfl
 ·have e:b=(s.heap.push {cls:=.type "range",data:=.fields #[.int lo t,.int hi u,.int 1 v]}).objs.size:=by simpa using hb
  subst e
  exact I1.fpOk (Nat.le_refl _) (I1.hok.fresh (Nat.le_refl _))
def aFI(ta:TA):TI:=fun σ H R=>ta σ H fun vs H1=>∃ j:Int,vs=[.int j] /\ -(2 ^ 62)<=j/\j < 2 ^ 62/\R (Itr 0 j.toNat) H1
def aFJ(ta:TA):TI:=fun σ H R=>ta σ H fun vs H1=>∃ i j:Int,vs=[.int i,.int j]/\(-(2 ^ 62)<=i/\i < 2 ^ 62 /\ -(2 ^ 62)<=j/\j < 2 ^ 62)/\R (Itr i (j - i).toNat) H1
theorem gJ{a:Expr}{ta:TA}{p pos:Pos}(hg:Gl X "range")(hm:X.mg "range"=none)(ha:PA X [a] ta)(hs:starEach [a] X.env=[(false,eval a X.env)]:=by rfl):PI X tg (.Call (.Name "range" p) [a] [] pos) (aFI ta):=by
 intro pins s σ H R I h
 refine Call_ (j4 I hg hm boot_range (PyProof.Rows.callWith_type1 (thn (ha pos pins s σ H _ I h) fun us s1 zz0=>?_) hs rfl))
 obtain ⟨vs,H1,I1,r1,q1⟩:=zz0
 obtain ⟨j,e,q1,q2,q⟩:=q1
 subst e
 cases r1 with
 | cons r rr=>
  cases rr
  obtain ⟨t,rfl⟩:=r
  exact call_range_1 (v5 I1 (by omega) (by omega) q1 q2 (by simpa using q))
theorem aBD{a b:Expr}{ta:TA}{p pos:Pos}(hg:Gl X "range")(hm:X.mg "range"=none)(ha:PA X [a,b] ta)(hs:starEach [a,b] X.env=[(false,eval a X.env),(false,eval b X.env)]:=by rfl)(hs2:starEach [b] X.env=[(false,eval b X.env)]:=by rfl) :
  PI X tg (.Call (.Name "range" p) [a,b] [] pos) (aFJ ta):=by
 intro pins s σ H R I h
 refine Call_ (j4 I hg hm boot_range (PyProof.Rows.callWith_type1 (thn (ha pos pins s σ H _ I h) fun us s1 zz0=>?_) (by rw[hs,hs2]) (by rw[hs2];rfl)))
 obtain ⟨vs,H1,I1,r1,q1⟩:=zz0
 obtain ⟨i,j,e,⟨q1,q2,q3,q4⟩,q⟩:=q1
 subst e
 cases r1 with
 | cons r rr=>
  cases rr with
  | cons r' rr=>
   cases rr
   obtain ⟨t,rfl⟩:=r
   obtain ⟨t',rfl⟩:=r'
   exact call_range_2 (v5 I1 q1 q2 q3 q4 q)
def aDF(wi:TI)(g:TG)(tb:TS):TS:=fun D σ H=>wi σ H fun J H1=>∃ W:Nat->Nat->St->Hp->Prop,(∃ m,W 0 m σ H1)/\∀ i m σ H,W i m σ H->
 (J.stop i H/\D.nx σ H)\/(J.go i H/\∃ N:St->Hp->Prop,(∀ σ' H',N σ' H'->∃ m',m' < m/\W (i+1) m' σ' H')/\∀ x H',J.yld i H x H'->g x σ H' fun σ2 H2=>tb {D with nx:=N,ct:=N,bk:=D.nx} σ2 H2)
noncomputable def oH(fp:List Addr)(h:Heap):List (Addr×Obj):=fp.filterMap fun b=>(h.get? b).map fun o=>(b,o)
theorem kF{fp:List Addr}{h:Heap}{b:Addr}{o:Obj}(hb:b∈fp)(e:h.get? b=some o):(b,o)∈oH fp h:=List.mem_filterMap.mpr ⟨b,hb,by rw[e];rfl⟩
theorem aBE{fp:List Addr}{h:Heap}{p:Addr×Obj}(hp:p∈oH fp h):p.1∈fp/\h.get? p.1=some p.2:=by
 obtain ⟨b,hb,e⟩:=List.mem_filterMap.mp hp
 cases q:h.get? b with
 | none=>rw[q] at e;cases e
 | some o=>
  rw[q] at e
  have e':(b,o)=p:=Option.some.inj e
  subst e'
  exact ⟨hb,q⟩
theorem Inv.pinned{pins:List (Addr×Obj)}{σ:St}{H:Hp}{s:Shared}{fp:List Addr}(I:Inv X pins σ H s)(hf:∀ b∈fp,hU X pins H b)(ho:∀ b∈fp,∃ o,s.heap.get? b=some o/\∀ v,o.data≠.cell v):Inv X (pins++oH fp s.heap) σ H s:=
 I.pins_of fun p hp=>(List.mem_append.mp hp).elim (fun z=>I.pin p (List.mem_append_right _ z)) fun z=>by
  obtain ⟨hb,e⟩:=aBE z
  obtain ⟨f0,f1,f2,_⟩:=hf p.1 hb
  obtain ⟨o,e',d⟩:=ho p.1 hb
  rw[e] at e';cases e'
  exact ⟨e,f0,f1,f2,d⟩
theorem Inv.unpinned{pins pl:List (Addr×Obj)}{σ:St}{H:Hp}{s:Shared}(I:Inv X (pins++pl) σ H s):Inv X pins σ H s:=I.pins_of fun p hp=>I.pin p (List.mem_append_right _ (List.mem_append_left _ hp))
theorem eY{iter:Expr}{body:List Stmt}{wi:TI}{g:TG}{tb:TS}{pos:Pos}(hp:PassesOwn (model X.prog X.w) X.A X.env X.xe)(hc:X.calm=true)(hi:PI X tg iter wi)(hg:PG X tg g)(hb:PSs X body tb)
  (hs:∀ x,foldedSetIterable iter X.env x=pure x:=by intro _;rfl):PS X (.For tg iter body [] pos) (aDF wi g tb):=by
 intro pins s σ H D I h
 refine wpAny_For (thn (hi pins s σ H _ I h) fun v s1 h1=>thn h1 fun itv s2 h2=>?_) hs
 obtain ⟨it,fp,tn,J,H2,e,I2,T,st2,f2,W,⟨m0,w0⟩,turn⟩:=h2
 subst e
 have stat:∀ {H':Hp},(∀ b∈fp,H' b=none)->∀ b∈fp,hU X pins H' b:=fun hn b hb=>⟨hn b hb,(f2 b hb).2⟩
 refine codeAny_forLoop_any (fun n s'=>∃ i σ' H',Inv X pins σ' H' s'/\tn i s'.heap/\(∀ b∈fp,H' b=none)/\W i n σ' H') ?_ m0 ⟨0,σ,H2,I2,st2,fun b hb=>(f2 b hb).1,w0⟩
 rintro n s3 ⟨i,σ3,H3,I3,st3,fr3,w3⟩
 rcases turn i n σ3 H3 w3 with ⟨stop,qn⟩|⟨go,N,hN,step⟩
 ·refine wpAny_passesOwn hp (thn (T.done X rfl rfl rfl hc i pins s3 σ3 H3 X.xe I3 (stat fr3) st3 stop) fun r s4 zz0=>?_)
  obtain ⟨hr,I4⟩:=zz0
  subst hr
  exact wpAny_execs_nil ⟨σ3,H3,I4,qn⟩
 ·refine wpAny_passesOwn hp (thn (T.item X rfl rfl rfl hc i pins s3 σ3 H3 X.xe I3 (stat fr3) st3 go) fun r s4 zz0=>?_)
  obtain ⟨u,hr,h4⟩:=zz0
  subst hr
  refine wpAny_passesOwn hp (thn h4 fun _ s5 zz0=>?_)
  obtain ⟨x,H5,I5,r5,y5,st5,fr5⟩:=zz0
  have I5':=I5.pinned (stat fr5) (T.obj _ _ st5)
  refine wpAny_passesOwn hp (thn (hg _ s5 σ3 H5 x u _ I5' r5 (step x H5 y5)) fun _ s6 zz0=>?_)
  obtain ⟨σ6,H6,I6,q6⟩:=zz0
  refine wpAny_passesOwn hp (thn (hb _ s6 σ6 H6 _ I6 q6) fun f s7 q7=>?_)
  have again:∀ {σ7:St} {H7:Hp},Inv X (pins++oH fp s5.heap) σ7 H7 s7->N σ7 H7->∃ m,m < n/\∃ i σ' H',Inv X pins σ' H' s7/\tn i s7.heap/\(∀ b∈fp,H' b=none)/\W i m σ' H':=fun {σ7 H7} I7 n7=>by
   obtain ⟨m',hm,w7⟩:=hN σ7 H7 n7
   refine ⟨m',hm,i+1,σ7,H7,I7.unpinned,T.keep _ _ _ st5 fun b hb o e=>(I7.pin (b,o) (List.mem_append_right _ (List.mem_append_right _ (kF hb e)))).1,fun b hb=>?_,w7⟩
   obtain ⟨o,e,d⟩:=T.obj _ _ st5 b hb
   exact (I7.pin (b,o) (List.mem_append_right _ (List.mem_append_right _ (kF hb e)))).2.1
  cases f with
  | next=>obtain ⟨σ7,H7,I7,n7⟩:=q7;exact again I7 n7
  | cont=>obtain ⟨σ7,H7,I7,n7⟩:=q7;exact again I7 n7
  | brk=>obtain ⟨σ7,H7,I7,q7⟩:=q7;exact ⟨σ7,H7,I7.unpinned,q7⟩
  | ret v=>obtain ⟨x7,σ7,H7,I7,r7,q7⟩:=q7;exact ⟨x7,σ7,H7,I7.unpinned,r7,q7⟩
end
end L2
namespace L2
open PySem PySem.Spec PyProof.Rows
abbrev R2:=V->V->Hp->VK->Prop
def OpR(X:Cx)(f:Value->Value->Sem Value)(r:R2):Prop:=
 ∀ (pins:List (Addr×Obj)) (s:Shared) (σ:St) (H:Hp) (x y:V) (v u:Value) (Q:VK),Inv X pins σ H s->bH x v->bH y u->r x y H Q->
  wpAny (model X.prog X.w) X.A (f v u) (EP X pins σ Q) X.xe s
def UnR(X:Cx)(f:Value->Sem Value)(r:V->Hp->VK->Prop):Prop:=
 ∀ (pins:List (Addr×Obj)) (s:Shared) (σ:St) (H:Hp) (x:V) (v:Value) (Q:VK),Inv X pins σ H s->bH x v->r x H Q->
  wpAny (model X.prog X.w) X.A (f v) (EP X pins σ Q) X.xe s
def iU(X:Cx)(f:Value)(r:List V->Hp->VK->Prop):Prop:=
 ∀ (pins:List (Addr×Obj)) (s:Shared) (σ:St) (H:Hp) (xs:List V) (us:List Value) (Q:VK),Inv X pins σ H s->bG xs us->r xs H Q->
  wpAny (model X.prog X.w) X.A (call f us) (EP X pins σ Q) X.xe s
def tOp(r:R2)(ta tb:TE):TE:=fun σ H Q=>ta σ H fun x H1=>tb σ H1 fun y H2=>r x y H2 Q
def tUn(r:V->Hp->VK->Prop)(ta:TE):TE:=fun σ H Q=>ta σ H fun x H1=>r x H1 Q
def rI(C:Int->Int->Prop)(g:Int->Int->V):R2:=fun x y H Q=>∃ i j,x=.int i/\y=.int j/\C i j/\Q (g i j) H
def rI0(g:Int->Int->V):R2:=fun x y H Q=>∃ i j,x=.int i/\y=.int j/\Q (g i j) H
def rU(g:Int->V):V->Hp->VK->Prop:=fun x H Q=>∃ i,x=.int i/\Q (g i) H
section
variable{X:Cx}{a b c:Expr}{ta tb tc:TE}{pos:Pos}
theorem aDG(ha:PE X a ta)(hb:PE X b tb){pins:List (Addr×Obj)}{s:Shared}{σ:St}{H:Hp}{R:V->V->Hp->Prop}(I:Inv X pins σ H s)
  (h:ta σ H fun x H1=>tb σ H1 fun y H2=>R x y H2) {Q:Value->Shared->Prop} {f:Value->Value->Sem Value}
  (hf:∀ v u s2 x y H2,Inv X pins σ H2 s2->bH x v->bH y u->R x y H2->wpAny (model X.prog X.w) X.A (f v u) Q X.xe s2) :
  wpAny (model X.prog X.w) X.A (eval a X.env) (fun v s₁=>wpAny (model X.prog X.w) X.A (eval b X.env) (fun u s₂=>wpAny (model X.prog X.w) X.A (f v u) Q X.xe s₂) X.xe s₁) X.xe s:=by
 refine thn (ha pins s σ H _ I h) fun v s1 zz0=>?_
 obtain ⟨x,H1,I1,r1,q1⟩:=zz0
 refine thn (hb pins s1 σ H1 _ I1 q1) fun u s2 zz0=>?_
 obtain ⟨y,H2,I2,r2,q2⟩:=zz0
 exact hf v u s2 x y H2 I2 r1 r2 q2
theorem aKW{op:Operator}{r:R2}(ho:OpR X (binaryOp op) r)(ha:PE X a ta)(hb:PE X b tb):PE X (.BinOp a op b pos) (tOp r ta tb):=by
 intro pins s σ H Q I h
 exact wpAny_BinOp (aDG ha hb I h fun v u s2 x y H2 I2 rx ry q=>ho pins s2 σ H2 x y v u Q I2 rx ry q)
theorem aKX{op:UnaryOp}{r:V->Hp->VK->Prop}(ho:UnR X (unaryOp op) r)(ha:PE X a ta):PE X (.UnaryOp op a pos) (tUn r ta):=by
 intro pins s σ H Q I h
 exact UnaryOp_ (thn (ha pins s σ H _ I h) fun v s1 ⟨x,H1,I1,r1,q1⟩=>ho pins s1 σ H1 x v Q I1 r1 q1)
theorem opI{f:Value->Value->Sem Value}{C:Int->Int->Prop}{g:Int->Int->Int}
  (rule:∀ (i j:Int) (t u:Tok) (s:Shared) (Q:Value->Shared->Prop) (E:Value->Shared->Prop),C i j->Q (.int (g i j) s.toks) {s with toks:=s.toks+1}->wpAny (model X.prog X.w) X.A (f (.int i t) (.int j u)) Q E s) :
  OpR X f (rI C fun i j=>.int (g i j)):=by
 intro pins s σ H x y v u Q I rx ry h
 obtain ⟨i,j,rfl,rfl,hc,q⟩:=h
 obtain ⟨t,rfl⟩:=rx
 obtain ⟨t',rfl⟩:=ry
 exact rule i j t t' s _ _ hc ⟨.int (g i j),H,I.tok _,⟨_,rfl⟩,q⟩
theorem aIJ{f:Value->Value->Sem Value}{g:Int->Int->Int}
  (rule:∀ (i j:Int) (t u:Tok) (s:Shared) (Q:Value->Shared->Prop) (E:Value->Shared->Prop),Q (.int (g i j) s.toks) {s with toks:=s.toks+1}->wpAny (model X.prog X.w) X.A (f (.int i t) (.int j u)) Q E s) :
  OpR X f (rI0 fun i j=>.int (g i j)):=by
 intro pins s σ H x y v u Q I rx ry h
 obtain ⟨i,j,rfl,rfl,q⟩:=h
 obtain ⟨t,rfl⟩:=rx
 obtain ⟨t',rfl⟩:=ry
 exact rule i j t t' s _ _ ⟨.int (g i j),H,I.tok _,⟨_,rfl⟩,q⟩
theorem zR{f:Value->Value->Sem Value}{g:Int->Int->Bool}
  (rule:∀ (i j:Int) (t u:Tok) (s:Shared) (Q:Value->Shared->Prop) (E:Value->Shared->Prop),Q (.bool (g i j)) s->wpAny (model X.prog X.w) X.A (f (.int i t) (.int j u)) Q E s) :
  OpR X f (rI0 fun i j=>.bl (g i j)):=by
 intro pins s σ H x y v u Q I rx ry h
 obtain ⟨i,j,rfl,rfl,q⟩:=h
 obtain ⟨t,rfl⟩:=rx
 obtain ⟨t',rfl⟩:=ry
 exact rule i j t t' s _ _ ⟨.bl (g i j),H,I,rfl,q⟩
def aL7(i j:Int):Prop:=0<=j/\j<=1000000/\i.natAbs < 2 ^ 64
def aDH(i j:Int):Prop:=(-(2 ^ 64) < i/\i < 2 ^ 64)\/(-(2 ^ 64) < j/\j < 2 ^ 64)
theorem aDH.ok{i j:Int}(h:aDH i j):IntMulOk i j:=by
 rcases h with ⟨h1,h2⟩|⟨h1,h2⟩
 · exact .of_left (intBits_le_64 h1 h2)
 · exact .of_right (intBits_le_64 h1 h2)
theorem aIK:OpR X (binaryOp .Add) (rI0 fun i j=>.int (i+j)):=aIJ fun _ _ _ _ _ _ _ q=>add_int q
theorem aIL:OpR X (binaryOp .Sub) (rI0 fun i j=>.int (i - j)):=aIJ fun _ _ _ _ _ _ _ q=>sub_int q
theorem aIM:OpR X (binaryOp .Mult) (rI aDH fun i j=>.int (i * j)):=opI fun _ _ _ _ _ _ _ hc q=>mul_int q hc.ok
theorem aIN:OpR X (binaryOp .Mod) (rI (fun _ j=>0 < j) fun i j=>.int (i % j)):=opI fun i j _ _ _ _ _ hc q=>by
 have h1:(0:Int) < j:=hc
 exact mod_int' (by omega) (by rw[Int.fmod_eq_emod_of_nonneg i (by omega)];exact q)
theorem aIO:OpR X (binaryOp .Pow) (rI aL7 fun i j=>.int (i ^ j.toNat)):=opI fun _ _ _ _ _ _ _ hc q=>pow_int_small hc.1 hc.2.1 hc.2.2 q
theorem unI{f:Value->Sem Value}{g:Int->Int}
  (rule:∀ (i:Int) (t:Tok) (s:Shared) (Q:Value->Shared->Prop) (E:Value->Shared->Prop),Q (.int (g i) s.toks) {s with toks:=s.toks+1}->wpAny (model X.prog X.w) X.A (f (.int i t)) Q E s) :
  UnR X f (rU fun i=>.int (g i)):=by
 intro pins s σ H x v Q I rx h
 obtain ⟨i,rfl,q⟩:=h
 obtain ⟨t,rfl⟩:=rx
 exact rule i t s _ _ ⟨.int (g i),H,I.tok _,⟨_,rfl⟩,q⟩
theorem aIP:UnR X (unaryOp .USub) (rU fun i=>.int (-i)):=unI fun _ _ _ _ _ q=>neg_int q
end
section
variable{X:Cx}{a b c:Expr}{ta tb tc:TE}{pos:Pos}
theorem wA{pins:List (Addr×Obj)}{σ:St}{H:Hp}{s:Shared}{Q:VK}{k k':Bool}(I:Inv X pins σ H s)(q:Q (.bl k) H)(e:k=k'):EP X pins σ Q (.bool k') s:=by
 subst e
 exact ⟨.bl k,H,I,rfl,q⟩
theorem aKY:OpR X (compareOp .Lt) (rI0 fun i j=>.bl (decide (i < j))):=zR fun _ _ _ _ _ _ _ q=>lt_int q
theorem aKZ:OpR X (compareOp .LtE) (rI0 fun i j=>.bl (decide (i<=j))):=zR fun _ _ _ _ _ _ _ q=>le_int q
theorem aK0:OpR X (compareOp .Gt) (rI0 fun i j=>.bl (decide (j < i))):=zR fun _ _ _ _ _ _ _ q=>gt_int q
theorem aK1:OpR X (compareOp .GtE) (rI0 fun i j=>.bl (decide (j<=i))):=zR fun _ _ _ _ _ _ _ q=>ge_int q
theorem aBF:OpR X (compareOp .In) (fun x y H Q=>∃ i j,x=.str i/\y=.str j/\Q (.bl (!(Builtin.Str.occurrences j i 0 j.length 1).isEmpty)) H):=by
 intro pins s σ H x y v u Q I rx ry h
 obtain ⟨i,j,rfl,rfl,q⟩:=h
 obtain ⟨t,rfl⟩:=rx
 obtain ⟨t',rfl⟩:=ry
 exact in_str (wA I q rfl)
theorem aIQ:OpR X (compareOp .Is) (fun x y H Q=>y=.non/\Q (.bl (decide (x=.non))) H):=by
 intro pins s σ H x y v u Q I rx ry h
 obtain ⟨rfl,q⟩:=h
 cases ry
 refine is_none_gen (wA I q ?_)
 cases x<;>first
  | (cases rx;rfl)
  | (obtain ⟨t,rfl⟩:=rx;rfl)
theorem wB:OpR X (compareOp .NotIn) (fun x y H Q=>∃ i j,x=.str i/\y=.str j/\Q (.bl (!(!(Builtin.Str.occurrences j i 0 j.length 1).isEmpty))) H):=by
 intro pins s σ H x y v u Q I rx ry h
 obtain ⟨i,j,rfl,rfl,q⟩:=h
 obtain ⟨t,rfl⟩:=rx
 obtain ⟨t',rfl⟩:=ry
 exact notIn_str (wA I q rfl)
theorem bZ(b:Expr){op:CmpOp}(h:op≠.In:=by decide)(h2:op≠.NotIn:=by decide):behindInMarks op b=false:=by
 have e1:(op == CmpOp.In)=false:=by cases op<;>first|rfl|exact absurd rfl h
 have e2:(op == CmpOp.NotIn)=false:=by cases op<;>first|rfl|exact absurd rfl h2
 cases b<;>simp[behindInMarks,e1,e2]
theorem aGC{op:CmpOp}{r:R2}(ho:OpR X (compareOp op) r)(ha:PE X a ta)(hb:PE X b tb)(hm:behindInMarks op b=false):PE X (.Compare a [op] [b] pos) (tOp r ta tb):=by
 intro pins s σ H Q I h
 exact wpAny_Compare1 (aDG ha hb I h fun v u s2 x y H2 I2 rx ry q=>ho pins s2 σ H2 x y v u Q I2 rx ry q) hm
def vG(t:TE):TT:=fun σ H Q=>t σ H fun x H'=>∃ k,x=.bl k/\Q k H'
theorem yJ{op:CmpOp}{r:R2}(ho:OpR X (compareOp op) r)(ha:PE X a ta)(hb:PE X b tb)(hm:behindInMarks op b=false):PT X (.Compare a [op] [b] pos) (vG (tOp r ta tb)):=by
 intro pins s σ H Q I h
 refine wpAny_isTrue_Compare1 (thn (ha pins s σ H _ I h) fun v s1 ⟨x,H1,I1,r1,q1⟩=>thn (hb pins s1 σ H1 _ I1 q1) fun u s2 ⟨y,H2,I2,r2,q2⟩=>
  thn (ho pins s2 σ H2 x y v u _ I2 r1 r2 q2) fun c s3 ⟨z,H3,I3,r3,k,e,q3⟩=>?_) hm
 subst e
 cases r3
 exact wpAny_truthy_bool ⟨H3,I3,q3⟩
def tChain(r r':R2)(ta tb tc:TE):TE:=fun σ H Q=>ta σ H fun x H1=>tb σ H1 fun y H2=>r x y H2 fun z H3=>∃ k,z=.bl k /\
 (if k=true then tc σ H3 fun w' H4=>r' y w' H4 Q else Q (.bl false) H3)
theorem qK{op op':CmpOp}{r r':R2}(ho:OpR X (compareOp op) r)(ho':OpR X (compareOp op') r')(ha:PE X a ta)(hb:PE X b tb)(hc:PE X c tc)
  (hm:lastMarks [op,op'] [b,c]=false:=by with_unfolding_all rfl):PT X (.Compare a [op,op'] [b,c] pos) (vG (tChain r r' ta tb tc)):=by
 intro pins s σ H Q I h
 refine isTrue_chain (thn (ha pins s σ H _ I h) fun v s1 ⟨x,H1,I1,r1,q1⟩=>test_link (thn (hb pins s1 σ H1 _ I1 q1) fun u s2 ⟨y,H2,I2,r2,q2⟩=>
  thn (ho pins s2 σ H2 x y v u _ I2 r1 r2 q2) fun d s3 ⟨z,H3,I3,r3,k,e,q3⟩=>?_)) hm
 subst e
 cases r3
 refine wpAny_truthy_bool ?_
 cases k with
 | false=>
  obtain ⟨k',e',q'⟩:=q3
  cases e'
  exact ite_ff ⟨H3,I3,q'⟩
 | true=>
  refine ite_tt (test_last (thn (hc pins s3 σ H3 _ I3 q3) fun w' s4 ⟨z',H4,I4,r4,q4⟩=>thn (ho' pins s4 σ H4 y z' u w' _ I4 r2 r4 q4) fun d' s5 zz0=>?_))
  obtain ⟨z2,H5,I5,r5,k2,e2,q5⟩:=zz0
  subst e2
  cases r5
  exact wpAny_truthy_bool ⟨H5,I5,q5⟩
theorem q9:(sizeLine:Nat) < 2 ^ 63:=by rw[sizeLine_eq];decide
theorem zS:OpR X (binaryOp .Add) (fun x y H Q=>∃ i j,x=.str i/\y=.str j/\i.length+j.length<=sizeLine/\Q (.str (i++j)) H):=by
 intro pins s σ H x y v u Q I rx ry h
 obtain ⟨i,j,rfl,rfl,hz,q⟩:=h
 obtain ⟨t,rfl⟩:=rx
 obtain ⟨t',rfl⟩:=ry
 exact add_str (fun t' tk=>⟨.str (i++j),H,I.tok _,⟨_,rfl⟩,q⟩) hz
theorem mZ{x:V}{us:List Value}(r:bG [x] us):∃ u,us=[u]/\bH x u:=by
 cases r with
 | cons r1 r2=>cases r2;exact ⟨_,rfl,r1⟩
theorem vH{x y:V}{us:List Value}(r:bG [x,y] us):∃ u w',us=[u,w']/\bH x u/\bH y w':=by
 cases r with
 | cons r1 r2=>
  cases r2 with
  | cons r3 r4=>cases r4;exact ⟨_,_,rfl,r1,r3⟩
theorem aDI:iU X (.builtin "abs") (fun xs H Q=>∃ i,xs=[.int i]/\Q (.int (if i < 0 then -i else i)) H):=by
 intro pins s σ H xs us Q I r h
 obtain ⟨i,rfl,q⟩:=h
 obtain ⟨u,rfl,t,rfl⟩:=mZ r
 exact call_abs_int fun u tk=>⟨.int (if i < 0 then -i else i),H,I.tok _,⟨_,rfl⟩,q⟩
theorem aBG(hc:X.calm=true):iU X (.builtin "min") (fun xs H Q=>∃ i j,xs=[.int i,.int j]/\Q (.int (if j < i then j else i)) H):=by
 intro pins s σ H xs us Q I r h
 obtain ⟨i,j,rfl,q⟩:=h
 obtain ⟨u,w',rfl,⟨t,rfl⟩,⟨t',rfl⟩⟩:=vH r
 refine min_two_ints (I.ok.hd hc) fun h' tk k=>⟨_,H,I.kept k,?_,q⟩
 by_cases hj:j < i
 · rw [if_pos hj, if_pos hj]; exact ⟨_, rfl⟩
 · rw [if_neg hj, if_neg hj]; exact ⟨_, rfl⟩
theorem tX:iU X (.type "int") (fun xs H Q=>(∃ i,xs=[.int i]/\Q (.int i) H)\/∃ k,xs=[.bl k]/\Q (.int (if k then 1 else 0)) H):=by
 intro pins s σ H xs us Q I r h
 rcases h with ⟨i,rfl,q⟩|⟨k,rfl,q⟩
 ·obtain ⟨u,rfl,t,rfl⟩:=mZ r
  exact call_int_int ⟨.int i,H,I,⟨_,rfl⟩,q⟩
 ·obtain ⟨u,rfl,r1⟩:=mZ r
  cases r1
  exact call_int_bool ⟨.int (if k then 1 else 0),H,I.tok _,⟨_,rfl⟩,q⟩
def aIR(K:Frag)(x:V)(H:Hp)(n:Nat):Prop:=
 match x with
 | .str y=>y.length<=sizeLine/\n=y.length
 | .byt y=>y.size<=sizeLine/\n=y.size
 | .ref p=>(∃ xs,SqL K H p xs/\n=xs.length)\/∃ xs,SqT K H p xs/\n=xs.length
 | _=>False
theorem b9:iU X (.builtin "len") (fun xs H Q=>∃ x n,xs=[x]/\aIR X.K x H n/\Q (.int n) H):=by
 intro pins s σ H xs us Q I r h
 obtain ⟨x,n,rfl,e,q⟩:=h
 obtain ⟨u,rfl,rx⟩:=mZ r
 have hl:=q9
 have hs:sizeLine=16777216:=sizeLine_eq
 cases x with
 | str y=>
  obtain ⟨t,rfl⟩:=rx
  obtain ⟨hy,e'⟩:y.length<=sizeLine/\n=y.length:=e
  subst e'
  exact len_str (by omega) ⟨.int _,H,I.tok _,⟨_,rfl⟩,q⟩
 | byt y=>
  obtain ⟨t,rfl⟩:=rx
  obtain ⟨hy,e'⟩:y.size<=sizeLine/\n=y.size:=e
  subst e'
  exact PySem.W.len_bytes (by omega) ⟨.int _,H,I.tok _,⟨_,rfl⟩,q⟩
 | ref p=>
  cases rx
  have e':(∃ xs,SqL X.K H p xs/\n=xs.length)\/∃ xs,SqT X.K H p xs/\n=xs.length:=e
  rcases e' with ⟨xs,hx,e'⟩|⟨xs,hx,e'⟩
  ·subst e'
   obtain ⟨its,r',pl,hz⟩:=I.list hx
   have hlen:=r'.length
   exact Calls.call_len_list pl.isList (by simp only[List.size_toArray];omega) ⟨.int xs.length,H,I.tok _,⟨_,by simp only[List.size_toArray];rw[hlen]⟩,q⟩
  ·subst e'
   obtain ⟨its,r',pl,hz⟩:=I.tuple hx
   have hlen:=r'.length
   exact len_tuple pl (by simp only[List.size_toArray];omega) ⟨.int xs.length,H,I.tok _,⟨_,by simp only[List.size_toArray];rw[hlen]⟩,q⟩
 | _=>exact (show False from e).elim
end
end L2
namespace L2
open PySem PySem.Spec PyProof.Rows
structure ObjM(h:Heap)(x dx C:Addr)(mA:Str->Option Value):Prop where
 obj:h.get? x=some (PySem.W.instObj C dx)
 ns:h.Ns1 dx mA
 ne:dx≠x
theorem oI{h:Heap}{dx:Addr}{mA:Str->Option Value}(n:h.Ns1 dx mA):∃ od,h.get? dx=some od/\∀ name,PySem.W.lookIn name od=some (mA name):=by
 obtain ⟨o,es,ep,ho,hd,hk,_,hm⟩:=n
 refine ⟨o,ho,fun name=>?_⟩
 have e:=hm name
 unfold nsFind findBy at e
 rw[<-Array.find?_toList] at e
 unfold PySem.W.lookIn
 rw[hd]
 dsimp only
 split
 ·rename_i y q
  rw[q] at e
  exact congrArg some e
 ·rename_i q
  rw[q] at e
  have a:es.toList.any (·.refKey)=false:=by
   rw[List.any_eq_false]
   intro y hy
   obtain ⟨z,t,hkey⟩:=hk y (Array.mem_toList_iff.mp hy)
   simp[DictEntry.refKey,hkey]
  have a':¬ es.toList.any (·.refKey)=true:=by rw[a];exact Bool.false_ne_true
  rw[if_neg a']
  exact congrArg some e
theorem ObjM.look{h:Heap}{x dx C:Addr}{mA:Str->Option Value}(I:ObjM h x dx C mA):∃ od,PySem.W.InstAt h x (PySem.W.instObj C dx) C (some od)/\∀ name,PySem.W.lookIn name od=some (mA name):=
 let ⟨od,ho,hl⟩:=oI I.ns
 ⟨od,⟨I.obj,rfl,rfl,ho⟩,hl⟩
section
variable{prog:Program}{w:World}{A:Around}{E:Value->Shared->Prop}{s:Shared}{K:Frag}{x dx C f:Addr}{mA:Str->Option Value}{name:Str}{v:Value}
theorem aGD{expr:Bool}{Q:Value->Shared->Prop}(X:K.In s.heap)(I:ObjM s.heap x dx C mA)(hg:PySem.W.plainGet K C name=true)(hh:PySem.W.hasDictIn K C=true)
  (ha:PySem.W.findIn K (.ref C) name=some none) (hv:mA name=some v) (hv':PySem.W.handedIn v=true) (h:Q v {s with toks:=s.toks+1}) :
  wpAny (model prog w) A (getAttr (.ref x) name expr) Q E s:=by
 obtain ⟨od,J,hl⟩:=I.look
 exact PySem.W.get_value X J (PySem.W.plainGet_of hg).1 (PySem.W.findObj_own hh ha rfl (by rw[hl,hv])) hv' h
theorem aDJ{pl:Sem Bool}{Q:Value×List Value->Shared->Prop}(X:K.In s.heap)(I:ObjM s.heap x dx C mA)(hg:PySem.W.plainGet K C name=true)
  (hf:PySem.W.findIn K (.ref C) name=some (some (.ref f))) (ht:PySem.W.isFn K (.ref f)=true) (hv:mA name=none) (h:Q (.ref f,[.ref x]) s) :
  wpAny (model prog w) A (getMethod (.ref x) name pl) Q E s:=by
 obtain ⟨od,J,hl⟩:=I.look
 exact PySem.W.method_fn X J (PySem.W.plainGet_of hg).1 (PySem.W.plainGet_of hg).2 hf (beq_iff_eq.mp ht) (by show (PySem.W.lookIn name od).map (·.isSome)=some false;rw[hl,hv];rfl) h
theorem aGE{ns:List Str}{Q:Unit->Shared->Prop}(X:K.In s.heap)(I:ObjM s.heap x dx C mA)
  (hs:PySem.W.findIn K (.ref C) "__setattr__"=some (some (.builtin "object.__setattr__"))) (hp:PySem.W.plainOver K C=true) (ht:PySem.W.takerIn K C name=some none) (hh:PySem.W.hasDictIn K C=true)
  (hw:PySem.Within mA ns) (hsz:ns.length<=sizeLine)
  (h:∀ h',ObjM h' x dx C (fun y=>if y=name then some v else mA y)->Heap.SameBut dx s.heap h'->Q () {s with heap:=h',toks:=s.toks+2}) :
  wpAny (model prog w) A (setAttr (.ref x) name v) Q E s:=by
 obtain ⟨od,J,hl⟩:=I.look
 refine PySem.W.set_plain X J hs (PySem.W.osa_open (s:={s with toks:=s.toks+1}) (r:=none) X J hp ht fun b=>?_)
 obtain ⟨cd,hc,hd'⟩:=PySem.W.any_some hh
 have hx:s.heap.get? x=some ⟨.ref C,some dx,.plain,#[]⟩:=I.obj
 refine wpAny_bind (wpAny_pure (wpAny_bind (wpAny_bind (wpAny_loadPart hx (wpAny_bind (PySem.W.Looks.here (s:={s with toks:=s.toks+1}) (PySem.W.looks_clsIn X hc) ?_))))))
 rw[hd']
 refine wpAny_pure (a:=some dx) (wpAny_bind (wpAny_pure (wpAny_bind ?_)))
 refine wpAny_nsSet1 (s:={s with toks:=s.toks+1}) I.ns fun h' hn2 hs2=>?_
 obtain ⟨oD,esD,epD,hoD,hdD,hcD⟩:=hn2.count (PySem.Within.cons name v hw)
 refine wpAny_bind (wpAny_lookBehind hoD (by rw[hdD];exact pastItsLine_dict (Nat.le_trans hcD (by rw[List.length_cons];omega))) ?_)
 exact wpAny_pure (h _ ⟨(hs2.2 _ (Ne.symm I.ne)).trans I.obj,hn2,I.ne⟩ hs2)
theorem aDK{R:Result->Shared->Prop}{vs:List Value}{kw:List (Str×Value)}(X:K.In s.heap)(hm:PySem.W.makesIn K C=true)
  (hi:PySem.W.findIn K (.ref C) "__init__"=some (some (.ref f))) (hf:PySem.W.typeIn K (.ref f)=some (.type "function"))
  (h:codeAny (model prog w) (A.under (.builtin "type.__call__" ⟨.ref C::vs,kw⟩)) (.call (.ref f) ⟨.ref (s.heap.objs.size+1)::vs,kw⟩) (PySem.W.InitBack (s.heap.objs.size+1) R)
   {s with heap:=(s.heap.push PySem.W.emptyDict).push (PySem.W.instObj C s.heap.objs.size)}) :
  codeAny (model prog w) A (.call (.ref C) ⟨vs,kw⟩) R s:=by
 obtain ⟨hh,g,d,t,os⟩:=s
 exact PySem.W.make_core (PySem.W.makes_of X hm) (PySem.W.looks_findIn X hi) (fun self=>PySem.W.bind_fn X self hf) (.inl rfl) h
end
noncomputable def gF(f:Str)(v:V):List (Str×V)->List (Str×V)
 | []=>[(f,v)]
 | (g,x)::r=>if g=f then (g,v)::r else (g,x)::gF f v r
theorem l5(f g:Str)(v:V):∀ fs:List (Str×V),(gF f v fs).lookup g=if g=f then some v else fs.lookup g
 | []=>by
  show List.lookup g [(f,v)]=_
  by_cases h:g=f
  ·have hb:(g == f)=true:=beq_iff_eq.mpr h
   simp only[List.lookup,hb,if_pos h]
  ·have hb:(g == f)=false:=beq_eq_false_iff_ne.mpr h
   simp only[List.lookup,hb,if_neg h]
 | (k,x)::r=>by
  have ih:=l5 f g v r
  rw[show gF f v ((k,x)::r)=(if k=f then (k,v)::r else (k,x)::gF f v r) from rfl]
  by_cases hk:k=f
  ·rw[if_pos hk]
   by_cases h:g=k
   ·have hb:(g == k)=true:=beq_iff_eq.mpr h
    simp only[List.lookup,hb,if_pos (h.trans hk)]
   ·have hb:(g == k)=false:=beq_eq_false_iff_ne.mpr h
    simp only[List.lookup,hb,if_neg (fun e:g=f=>h (e.trans hk.symm))]
  ·rw[if_neg hk]
   by_cases h:g=k
   ·have hb:(g == k)=true:=beq_iff_eq.mpr h
    simp only[List.lookup,hb,if_neg (fun e:g=f=>hk (h.symm.trans e))]
   ·have hb:(g == k)=false:=beq_eq_false_iff_ne.mpr h
    simp only[List.lookup,hb]
    exact ih
theorem oJ(f:Str)(v:V):∀ fs:List (Str×V),f∈(gF f v fs).map (·.1)/\∀ g,g∈fs.map (·.1)->g∈(gF f v fs).map (·.1)
 | []=>⟨by simp[gF],fun g h=>by simp at h⟩
 | (k,x)::r=>by
  obtain ⟨i1,i2⟩:=oJ f v r
  rw[show gF f v ((k,x)::r)=(if k=f then (k,v)::r else (k,x)::gF f v r) from rfl]
  by_cases hk:k=f
  ·rw[if_pos hk]
   subst hk
   exact ⟨by simp,fun g h=>by simpa using h⟩
  ·rw[if_neg hk]
   refine ⟨?_,fun g h=>?_⟩
   ·rw[List.map_cons]
    exact List.mem_cons_of_mem _ i1
   ·rw[List.map_cons] at h ⊢
    rcases List.mem_cons.mp h with e|e
    · exact List.mem_cons.mpr (.inl e)
    · exact List.mem_cons_of_mem _ (i2 g e)
theorem qB(f:Str)(v:V):∀ fs:List (Str×V),(gF f v fs).length<=fs.length+1
 | []=>by simp[gF]
 | (k,x)::r=>by
  have ih:=qB f v r
  rw[show gF f v ((k,x)::r)=(if k=f then (k,v)::r else (k,x)::gF f v r) from rfl]
  by_cases hk:k=f
  · rw [if_pos hk, List.length_cons, List.length_cons]; omega
  · rw [if_neg hk, List.length_cons, List.length_cons]; omega
theorem f6.some_of{v:V}{o:Option Value}(r:f6 (some v) o):∃ u,o=some u/\bH v u:=by
 cases o with
 | none=>exact (show False from r).elim
 | some u=>exact ⟨u,rfl,r⟩
theorem f6.none_of{o:Option Value}(r:f6 none o):o=none:=by
 cases o with
 | none=>rfl
 | some u=>exact (show False from r).elim
theorem aBH{v:V}{u:Value}(r:bH v u):PySem.W.handedIn u=true:=by
 cases v with
 | non=>cases (show u=Value.none from r);rfl
 | bl b=>cases (show u=Value.bool b from r);rfl
 | int i=>obtain ⟨t,e⟩:=(show ∃ t,u=Value.int i t from r);cases e;rfl
 | str x=>obtain ⟨t,e⟩:=(show ∃ t,u=Value.str x t from r);cases e;rfl
 | byt b=>obtain ⟨t,e⟩:=(show ∃ t,u=Value.bytes b t from r);cases e;rfl
 | flt b=>obtain ⟨t,e⟩:=(show ∃ t,u=Value.float b t from r);cases e;rfl
 | ref a=>cases (show u=Value.ref a from r);rfl
 | ty n=>cases (show u=Value.type n from r);rfl
section
variable{P:Program}{w:World}{H H':Hp}{h h':Heap}{a C dx:Addr}{fs fs':List (Str×V)}
theorem pK(hok:HOk P w H h)(e:H a=some (.ins C dx fs)):∃ mA,ObjM h a dx C mA/\(∀ f,f6 (fs.lookup f) (mA f))/\PySem.Within mA (fs.map (·.1))/\fs.length<=1000/\H dx=some (.own a):=by
 obtain ⟨d,z,ne,ob,mA,n,r,q⟩:=(show cR P w H h a (.ins C dx fs) from hok a _ e)
 exact ⟨mA,⟨ob,n,ne⟩,r,q,z,d⟩
end
structure Cls(K:Frag)(C:Addr):Prop where
 pg:PySem.W.plainGet K C Str.empty=true
 hd:PySem.W.hasDictIn K C=true
 po:PySem.W.plainOver K C=true
 sa:PySem.W.findIn K (.ref C) "__setattr__"=some (some (.builtin "object.__setattr__"))
theorem Cls.get{K:Frag}{C:Addr}(c:Cls K C)(f:Str):PySem.W.plainGet K C f=true:=c.pg
def cX(K:Frag)(C:Addr)(f:Str):Prop:=PySem.W.findIn K (.ref C) f=some none
theorem cX.taker{K:Frag}{C:Addr}{f:Str}(n:cX K C f):PySem.W.takerIn K C f=some none:=by
 unfold PySem.W.takerIn
 rw[show PySem.W.findIn K (.ref C) f=some none from n]
 rfl
structure Con(K:Frag)(C:Addr)(f:Str)(v:V)(u:Value):Prop where
 at_:PySem.W.findIn K (.ref C) f=some (some u)
 rel:bH v u
 get:PySem.W.specialIn K u "__get__"=some none
 cp:PySem.W.copiedNames.contains f=false
structure Meth(K:Frag)(C:Addr)(m:Str)(f:Addr):Prop where
 at_:PySem.W.findIn K (.ref C) m=some (some (.ref f))
 fn:PySem.W.isFn K (.ref f)=true
 kp:PySem.W.keepIn K (.ref f)=true
section
variable{X:Cx}{pins:List (Addr×Obj)}{σ:St}{H:Hp}{s:Shared}{a C dx:Addr}{fs:List (Str×V)}{f:Str}{v:V}{A:Around}{E:Value->Shared->Prop}
theorem zT{b:Bool}{Q:Value->Shared->Prop}(I:Inv X pins σ H s)(e:H a=some (.ins C dx fs))(c:Cls X.K C)(n:cX X.K C f)(l:fs.lookup f=some v)
  (h:∀ u s',Inv X pins σ H s'->bH v u->Q u s'):wpAny (model X.prog X.w) A (getAttr (.ref a) f b) Q E s:=by
 obtain ⟨mA,O,r,_,_,_⟩:=pK I.hok e
 obtain ⟨u,hu,ru⟩:=f6.some_of (v:=v) (o:=mA f) (by rw[<-l];exact r f)
 exact aGD I.kIn O (c.get f) c.hd n hu (aBH ru) (h u _ (I.tok _) ru)
theorem zU{m:Str}{g:Addr}{pl:Sem Bool}{Q:Value×List Value->Shared->Prop}(I:Inv X pins σ H s)(e:H a=some (.ins C dx fs))(c:Cls X.K C)(k:Meth X.K C m g)(l:fs.lookup m=none)
  (h:Q (.ref g,[.ref a]) s):wpAny (model X.prog X.w) A (getMethod (.ref a) m pl) Q E s:=by
 obtain ⟨mA,O,r,_,_,_⟩:=pK I.hok e
 have hn:mA m=none:=f6.none_of (by rw[<-l];exact r m)
 exact aDJ I.kIn O (c.get m) k.at_ k.fn hn h
theorem zV{y:V}{u:Value}{Q:Unit->Shared->Prop}(I:Inv X pins σ H s)(e:H a=some (.ins C dx fs))(c:Cls X.K C)(n:cX X.K C f)(hl:fs.length < 1000)(ry:bH y u)
  (h:∀ s',Inv X pins σ (upd H a (.ins C dx (gF f y fs))) s'->Q () s'):wpAny (model X.prog X.w) A (setAttr (.ref a) f u) Q E s:=by
 obtain ⟨mA,O,r,wi,_,ho⟩:=pK I.hok e
 have hz:(fs.map (·.1)).length<=sizeLine:=by rw[List.length_map,sizeLine_eq];omega
 refine aGE I.kIn O c.sa c.po n.taker c.hd wi hz fun h' O' sb=>h _ ?_
 have hd:∃ o,h'.get? dx=some o:=let ⟨o,_,_,e',_⟩:=O'.ns;⟨o,e'⟩
 refine I.write (x:=a) (e:=dx) (by rw[e];exact True.intro) (.inr ho) (fun b q hb z=>(sb.2 b hb).trans z) hd ?_
 refine ⟨by rw[aK O.ne];exact ho,?_,O.ne,O'.obj,_,O'.ns,fun g=>?_,fun g hg=>?_⟩
 ·have:=qB f y fs;omega
 ·show f6 ((gF f y fs).lookup g) (if g=f then some u else mA g)
  rw[l5]
  by_cases q:g=f
  ·rw[if_pos q,if_pos q];exact ry
  ·rw[if_neg q,if_neg q];exact r g
 ·by_cases q:g=f
  ·rw[q];exact (oJ f y fs).1
  ·refine (oJ f y fs).2 g (wi g fun z=>hg ?_)
   show (if g=f then some u else mA g)=none
   rw[if_neg q];exact z
theorem Inv.made(I:Inv X pins σ H s):Inv X pins σ (upd (upd H s.heap.objs.size (.own (s.heap.objs.size+1))) (s.heap.objs.size+1) (.ins C s.heap.objs.size []))
  {s with heap:=(s.heap.push PySem.W.emptyDict).push (PySem.W.instObj C s.heap.objs.size)}:=by
 have e1:(s.heap.push PySem.W.emptyDict).get? s.heap.objs.size=some PySem.W.emptyDict:=Heap.get?_push_size s.heap rfl
 have e2:((s.heap.push PySem.W.emptyDict).push (PySem.W.instObj C s.heap.objs.size)).get? (s.heap.objs.size+1)=some (PySem.W.instObj C s.heap.objs.size):=by
  have:=Heap.get?_push_size (s.heap.push PySem.W.emptyDict) (o:=PySem.W.instObj C s.heap.objs.size) rfl
  rwa [Heap.size_push] at this
 have e3:(s.heap.push PySem.W.emptyDict).Ns s.heap.objs.size (fun _=>none):=⟨PySem.W.emptyDict,#[],_,e1,rfl,(fun e he=>absurd he (by simp)),fun _=>rfl⟩
 have I1:=I.laid (a:=s.heap.objs.size) (o:=.own (s.heap.objs.size+1)) (h':=s.heap.push PySem.W.emptyDict) (t':=s.toks) (fun b u q=>Heap.get?_push_of_some _ q) (Nat.le_refl _) ⟨_,e1⟩
 refine I1.laid (a:=s.heap.objs.size+1) (o:=.ins C s.heap.objs.size []) (t':=s.toks) (fun b u q=>Heap.get?_push_of_some _ q) (Nat.le_of_eq (Heap.size_push _ _)) ?_
 have ne:s.heap.objs.size≠s.heap.objs.size+1:=Nat.ne_of_lt (Nat.lt_succ_self _)
 refine ⟨by rw[aK ne,aW],Nat.zero_le _,ne,e2,fun _=>none,(Heap.Ns1.of_empty e3).at fun o q=>Heap.get?_push_of_some _ q,fun _=>True.intro,fun y hy=>absurd rfl hy⟩
theorem aGF{prog:Program}{w:World}{env:Env}{e:Expr}{f:Str}{pos:Pos}{s:Shared}{Q:Value->Shared->Prop}(hb:attributeBase e f env (eval e env)=eval e env)
  (h:wpAny (model prog w) A (eval e env) (fun o s₁=>wpAny (model prog w) A (getAttr o f true) Q E s₁) E s):wpAny (model prog w) A (eval (.Attribute e f pos) env) Q E s:=
 Attribute_any_ h (by rw[arm_eval_Attribute,hb])
end
def aIS(K:Frag)(ta:TE)(f:Str):TE:=fun σ H Q=>ta σ H fun x H1=>∃ a C dx fs v,x=.ref a/\H1 a=some (.ins C dx fs)/\Cls K C/\cX K C f/\fs.lookup f=some v/\Q v H1
def aL8(K:Frag)(ta tv:TE)(f:Str):TS:=fun D σ H=>tv σ H fun y H1=>ta σ H1 fun x H2=>∃ a C dx fs,x=.ref a/\H2 a=some (.ins C dx fs)/\Cls K C/\cX K C f/\fs.length < 1000 /\
 D.nx σ (upd H2 a (.ins C dx (gF f y fs)))
section
variable{X:Cx}{o e value:Expr}{f:Str}{pos pos' tpos:Pos}{ta tv:TE}
theorem iB(he:PE X e ta)(hb:attributeBase e f X.env (eval e X.env)=eval e X.env):PE X (.Attribute e f pos) (aIS X.K ta f):=by
 intro pins s σ H Q I h
 refine aGF hb (thn (he pins s σ H _ I h) fun u s1 zz0=>?_)
 obtain ⟨x,H1,I1,rx,a,C,dx,fs,v,ex,ea,c,n,l,q⟩:=zz0
 subst ex
 obtain rfl:u=Value.ref a:=rx
 exact zT I1 ea c n l fun u' s2 I2 ru=>⟨v,H1,I2,ru,q⟩
theorem mC(ha:PE X o ta)(hv:PE X value tv)(hs:swapsWith value (some (.Attribute o f pos')) pos.line X.env=pure false):PS X (.Assign [.Attribute o f pos'] value pos) (aL8 X.K ta tv f):=by
 intro pins s σ H D I h
 refine plainObj_wpAny_Assign_Attribute (thn (hv pins s σ H _ I h) fun u s1 ⟨y,H1,I1,ry,q⟩=>thn (ha pins s1 σ H1 _ I1 q) fun ov s2 zz0=>?_) hs
 obtain ⟨x,H2,I2,rx,a,C,dx,fs,ex,ea,c,n,l,q2⟩:=zz0
 subst ex
 obtain rfl:ov=Value.ref a:=rx
 exact zV I2 ea c n l ry fun s3 I3=>⟨σ,_,I3,q2⟩
theorem yA{pl:Sem Bool}{m:Str}{apos:Pos}{args:List Expr}{pins:List (Addr×Obj)}{s:Shared}{σ:St}{H:Hp}{Q:Value->Shared->Prop}{te:TE}(he:PE X e te)(I:Inv X pins σ H s)
  (h:te σ H fun x H1=>∃ a C dx fs g,x=.ref a/\H1 a=some (.ins C dx fs)/\Cls X.K C/\Meth X.K C m g/\fs.lookup m=none /\
   ∀ s1,Inv X pins σ H1 s1->wpAny (model X.prog X.w) X.A (callWith pos (.ref g) [.ref a] (backTo pos (starEach args X.env)) (backToKw pos (keywordEach [] X.env))) Q X.xe s1)
  (ht:eval (.Call (.Attribute e m apos) args [] pos) X.env=(do
   let ov <-eval e X.env
   standAt apos.atName
   let (f,first) <-holding [ov] (getMethod ov m pl)
   callWith pos f first (backTo pos (starEach args X.env)) (backToKw pos (keywordEach [] X.env)))) :
  wpAny (model X.prog X.w) X.A (eval (.Call (.Attribute e m apos) args [] pos) X.env) Q X.xe s:=by
 refine PySem.W.methodCall_KW (pl:=pl) (thn (he pins s σ H _ I h) fun u s1 zz0=>?_) ht
 obtain ⟨x,H1,I1,rx,a,C,dx,fs,g,ex,ea,c,k,l,q⟩:=zz0
 subst ex
 obtain rfl:u=Value.ref a:=rx
 exact zU I1 ea c k l (q s1 I1)
end
section
variable{X:Cx}{pins:List (Addr×Obj)}{σ:St}{H:Hp}{s:Shared}{A:Around}{E:Value->Shared->Prop}{Q:Value->Shared->Prop}{c:Value}{b:Bool}
inductive TyOf(K:Frag)(H:Hp):V->Value->Prop where
 | non:TyOf K H .non (.type "NoneType")
 | bl (x:Bool):TyOf K H (.bl x) (.type "bool")
 | int (i:Int):TyOf K H (.int i) (.type "int")
 | str (x:Str):TyOf K H (.str x) (.type "str")
 | flt (x:UInt64):TyOf K H (.flt x) (.type "float")
 | lst {a:Addr} {xs:List V} (e:H a=some (.lst xs)):TyOf K H (.ref a) (.type "list")
 | frz {a:Addr} {o:Obj} {xs:List V} (e:H a=some (.frz o (.lst xs))):TyOf K H (.ref a) (.type "list")
 | tup {a:Addr} {xs:List V} (e:H a=some (.tup xs)):TyOf K H (.ref a) (.type "tuple")
 | dK {a:Addr} {kvs:List (Key×V)} (e:H a=some (.dK kvs)):TyOf K H (.ref a) (.type "dict")
 | dT {a:Addr} {kvs:List (List Key×V)} (e:H a=some (.dT kvs)):TyOf K H (.ref a) (.type "dict")
 | ins {a C dx:Addr} {fs:List (Str×V)} (e:H a=some (.ins C dx fs)) (cl:Cls K C) (ha:PySem.W.findIn K (.ref C) "__class__"=some (some (.builtin "object.__class__")))
  (hn:PySem.W.specialIn K (.builtin "object.__class__") "__get__"=some (some (.builtin "getset_descriptor.__get__"))) (htk:PySem.W.takesIn K (.builtin "object.__class__")=some true)
  (hm:PySem.W.mroIn K C (.type "object")=some true):TyOf K H (.ref a) (.ref C)
theorem aBI{x:V}{u t:Value}(I:Inv X pins σ H s)(rx:bH x u)(ty:TyOf X.K H x t)(e:PySem.W.kitOne X.K t c=some b)(h:∀ tk,Q (.bool b) {s with toks:=tk}) :
  wpAny (model X.prog X.w) A (call (.builtin "isinstance") [u,c]) Q E s:=by
 cases ty with
 | non=>cases (show u=Value.none from rx);exact PySem.W.kia_one PySem.W.kitx_none I.kIn True.intro e (fun z=>nomatch z) h
 | bl y=>cases (show u=Value.bool y from rx);exact PySem.W.kia_one PySem.W.kitx_bool I.kIn True.intro e (fun z=>nomatch z) h
 | int i=>obtain ⟨t,q⟩:=(show ∃ t,u=Value.int i t from rx);cases q;exact PySem.W.kia_one PySem.W.kitx_int I.kIn True.intro e (fun z=>nomatch z) h
 | str y=>obtain ⟨t,q⟩:=(show ∃ t,u=Value.str y t from rx);cases q;exact PySem.W.kia_one PySem.W.kitx_str I.kIn True.intro e (fun z=>nomatch z) h
 | flt y=>obtain ⟨t,q⟩:=(show ∃ t,u=Value.float y t from rx);cases q;exact PySem.W.kia_one PySem.W.kitx_float I.kIn True.intro e (fun z=>nomatch z) h
 | @lst a xs ea=>
  cases (show u=Value.ref a from rx)
  obtain ⟨_,_,n,_,h1⟩:=(show cR X.prog X.w H s.heap a (.lst xs) from I.hok a _ ea)
  exact PySem.W.kia_one PySem.W.kitx_list I.kIn ⟨_,h1,rfl⟩ e (fun z=>nomatch z) h
 | @frz a ob xs ea=>
  cases (show u=Value.ref a from rx)
  obtain ⟨_,_,_,n,_,h1⟩:=(show cR X.prog X.w H s.heap a (.frz ob (.lst xs)) from I.hok a _ ea)
  exact PySem.W.kia_one PySem.W.kitx_list I.kIn ⟨_,h1,rfl⟩ e (fun z=>nomatch z) h
 | @tup a xs ea=>
  cases (show u=Value.ref a from rx)
  obtain ⟨_,_,_,p⟩:=(show cR X.prog X.w H s.heap a (.tup xs) from I.hok a _ ea)
  obtain ⟨o,h1,h2,_⟩:=p
  exact PySem.W.kia_one PySem.W.kitx_tuple I.kIn ⟨o,h1,h2⟩ e (fun z=>nomatch z) h
 | @dK a kvs ea=>
  cases (show u=Value.ref a from rx)
  obtain ⟨_,_,vs,_,p⟩:=(show cR X.prog X.w H s.heap a (.dK kvs) from I.hok a _ ea)
  obtain ⟨o,es,ep,h1,h2,_⟩:=p
  exact PySem.W.kia_one PySem.W.kitx_dict I.kIn ⟨o,h1,h2.1⟩ e (fun z=>nomatch z) h
 | @dT a kvs ea=>
  cases (show u=Value.ref a from rx)
  obtain ⟨_,_,xs,_,o,es,ep,h1,h2,_⟩:=(show cR X.prog X.w H s.heap a (.dT kvs) from I.hok a _ ea)
  exact PySem.W.kia_one PySem.W.kitx_dict I.kIn ⟨o,h1,h2.1⟩ e (fun z=>nomatch z) h
 | @ins a C dx fs ea cl ha hn htk hm=>
  cases (show u=Value.ref a from rx)
  obtain ⟨mA,O,_⟩:=pK I.hok ea
  obtain ⟨od,J,_⟩:=O.look
  exact PySem.W.kia_one (PySem.W.kitx_own (cl.get _) cl.hd ha hn htk hm) I.kIn J e (fun z=>nomatch z) h
end
end L2
namespace L2
open PySem PySem.Spec PyProof.Rows
structure Room(k:Nat)(A:Around):Prop where
 hd:A.handled=none
 dp:A.depth+3 * k+5 < recursionLimit
 un:A.units+16 * k+200 < cLine
theorem Room.mono{j k:Nat}{A:Around}(r:Room k A)(h:j<=k):Room j A:=⟨r.hd,by have:=r.dp;omega,by have:=r.un;omega⟩
theorem Room.deeper{k:Nat}{A:Around}(r:Room (k+1) A)(env:Env):Room k (A.deeper env):=
 ⟨r.hd,by have:=r.dp;show A.depth+1+3 * k+5 < _;omega,by have:=r.un;show A.units+3+16 * k+200 < _;omega⟩
theorem zW{A:Around}{C:Addr}{us:List Value}{kw:List (Str×Value)}:(A.under (.builtin "type.__call__" ⟨.ref C::us,kw⟩)).depth=A.depth+1:=by
 first|rfl|simp[Around.under,Code.weight,Code.isCreation,Code.isGuard,Code.isCaller,Code.frames,Code.isFrame,guardIds]
theorem zX{A:Around}{C:Addr}{us:List Value}{kw:List (Str×Value)}:(A.under (.builtin "type.__call__" ⟨.ref C::us,kw⟩)).units=A.units+1:=by
 first|rfl|simp[Around.under,Code.cUnits,Code.frames,Code.isFrame]
theorem Room.make{k:Nat}{A:Around}(r:Room (k+1) A)(C:Addr)(us:List Value)(kw:List (Str×Value)):Room k (A.under (.builtin "type.__call__" ⟨.ref C::us,kw⟩)):=
 ⟨r.hd,by have:=r.dp;rw[zW];omega,by have:=r.un;rw[zX];omega⟩
theorem Room.depth{k:Nat}{A:Around}(r:Room k A):A.depth < recursionLimit:=by have:=r.dp;omega
theorem Room.units{k:Nat}{A:Around}(r:Room k A):A.units+64 < cLine:=by have:=r.un;omega
def gG:TA:=fun _ H Q=>Q [] H
def d0(ta:TE)(tr:TA):TA:=fun σ H Q=>ta σ H fun x H1=>tr σ H1 fun xs H2=>Q (x::xs) H2
section
variable{X:Cx}{e:Expr}{es:List Expr}{te:TE}{t:TA}{pos:Pos}
theorem aX:PA X [] gG:=fun _ _ _ _ H Q I h=>Calls.spliced_nil ⟨[],H,I,.nil,h⟩
theorem aP(ha:PE X e te)(hr:PA X es t)(hs:starEach (e::es) X.env=(false,eval e X.env)::starEach es X.env:=by rfl):PA X (e::es) (d0 te t):=by
 intro pos pins s σ H Q I h
 rw[hs]
 show wpAny _ _ (spliced ((false,eval e X.env)::backTo pos (starEach es X.env))) _ _ s
 refine Calls.spliced_cons (thn (ha pins s σ H _ I h) fun u s1 zz0=>?_)
 obtain ⟨x,H1,I1,r1,q1⟩:=zz0
 exact thn (hr pos pins s1 σ H1 _ I1 q1) fun us s2 ⟨xs,H2,I2,r2,q2⟩=>⟨x::xs,H2,I2,.cons r1 r2,q2⟩
def aL9(t:TA):TE:=fun σ H Q=>t σ H fun xs H1=>xs.length<=sizeLine/\∀ p,H1 p=none->Q (.ref p) (upd H1 p (.tup xs))
def aIT(t:TA):TE:=fun σ H Q=>t σ H fun xs H1=>xs.length<=sizeLine/\∀ p,H1 p=none->Q (.ref p) (upd H1 p (.lst xs))
theorem aIU{x1}(h:PA X es t):PE X (.Tuple es x1 pos) (aL9 t):=by
 intro pins s σ H Q I hq
 refine wpAny_Tuple_spliced (thn (h pos pins s σ H _ I hq) fun us s1 ⟨xs,H1,I1,r,z,q⟩=>⟨by rw[<-r.length];exact z,?_⟩)
 have hf:H1 s1.heap.objs.size=none:=I1.hok.fresh (Nat.le_refl _)
 refine ⟨.ref s1.heap.objs.size,upd H1 s1.heap.objs.size (.tup xs),I1.laid (t':=s1.toks) (fun b u e=>Heap.get?_push_of_some _ e) (Nat.le_refl _) ?_,rfl,q _ hf⟩
 exact ⟨z,us,r,⟨_,Heap.get?_push_size _ rfl,rfl,_,rfl⟩⟩
theorem aBJ(h:PA X es t):PE X (.List es pos) (aIT t):=by
 intro pins s σ H Q I hq
 refine wpAny_List_spliced (thn (h pos pins s σ H _ I hq) fun us s1 ⟨xs,H1,I1,r,z,q⟩=>⟨by rw[<-r.length];exact z,?_⟩)
 have hf:H1 s1.heap.objs.size=none:=I1.hok.fresh (Nat.le_refl _)
 refine ⟨.ref s1.heap.objs.size,upd H1 s1.heap.objs.size (.lst xs),I1.laid (t':=s1.toks) (fun b u e=>Heap.get?_push_of_some _ e) (Nat.le_refl _) ?_,rfl,q _ hf⟩
 exact ⟨z,us,0,r,Heap.get?_push_size _ rfl⟩
end
abbrev Sp:=List V->Hp->VK->XK->Prop
abbrev CXT:=List Env->Hp->Shared->XK->Value->Shared->Prop
structure Env0(P:Program)(w:World)(K:Frag)(mg:Str->Option Value)(base:Heap)(A:Around)(outer:List Env)(s:Shared)(H:Hp):Prop where
 frames:A.frames=some outer
 mod:Mod K mg base
 bs:∀ b o,base.get? b=some o->s.heap.get? b=some o/\H b=none
 bsz:base.objs.size<=s.heap.objs.size
 funs:s.heap.FunFrames base outer
 frf:∀ b∈frs outer,H b=none
 hok:HOk P w H s.heap
 bare:AllBare s.gens
def CE(outer:List Env)(P:Program)(w:World)(H:Hp)(s:Shared)(Q:VK)(u:Value)(s':Shared):Prop:=
 ∃ v H',s'.os=s.os/\AllBare s'.gens/\Un (frs outer) [] H H' s.heap s'.heap/\HOk P w H' s'.heap/\bH v u/\Q v H'
def CR(CX:CXT)(outer:List Env)(P:Program)(w:World)(H:Hp)(s:Shared)(Q:VK)(E:XK)(r:Result)(s':Shared):Prop:=
 match r with
 | .ok (.ret u)=>CE outer P w H s Q u s'
 | .ok _=>False
 | .error e=>CX outer H s E e s'
structure FnOk(P:Program)(w:World)(K:Frag)(mg:Str->Option Value)(base:Heap)(CX:CXT)(k:Nat)(f:Addr)(fd:FuncData)(ps:List Str)(sp:Sp):Prop where
 len:∀ vs H Q E,sp vs H Q E->vs.length=ps.length
 run:∀ (A:Around) (outer:List Env) (s:Shared) (H:Hp) (args:Args) (us:List Value) (vs:List V) (Q:VK) (E:XK),Room k A->Env0 P w K mg base A outer s H->BindsTo s fd args (ps.zip us)->bG vs us->sp vs H Q E->
  codeAny (model P w) A (.call (.ref f) args) (CR CX outer P w H s Q E) s
theorem FnOk.imp{P:Program}{w:World}{K:Frag}{mg:Str->Option Value}{base:Heap}{CX:CXT}{k:Nat}{f:Addr}{fd:FuncData}{ps:List Str}{sp sp':Sp}(F:FnOk P w K mg base CX k f fd ps sp)
  (h:∀ vs H Q E,sp' vs H Q E->sp vs H Q E):FnOk P w K mg base CX k f fd ps sp':=
 ⟨fun vs H Q E q=>F.len vs H Q E (h _ _ _ _ q),fun A outer s H args us vs Q E hr he hb hv hs=>F.run A outer s H args us vs Q E hr he hb hv (h _ _ _ _ hs)⟩
theorem Env0.make{P:Program}{w:World}{K:Frag}{mg:Str->Option Value}{base:Heap}{A:Around}{outer:List Env}{s:Shared}{H:Hp}(e:Env0 P w K mg base A outer s H)(C:Addr)(us:List Value)(kw:List (Str×Value)) :
 Env0 P w K mg base (A.under (.builtin "type.__call__" ⟨.ref C::us,kw⟩)) outer s H:=⟨by first|exact e.frames|(simpa[Around.under,Code.envs,Code.isFrame,pushEnvs] using e.frames),e.mod,e.bs,e.bsz,e.funs,e.frf,e.hok,e.bare⟩
section
variable{X:Cx}{pins:List (Addr×Obj)}{σ:St}{H:Hp}{s s':Shared}
theorem Inv.env0(I:Inv X pins σ H s):Env0 X.prog X.w X.K X.mg X.base X.A X.stack s H:=
 ⟨I.ok.frames,I.ok.mod,I.bs,Nat.le_trans I.ok.bsz I.sz,I.stack,I.stkFree,I.hok,I.bare⟩
theorem Inv.after{Q:VK}{u:Value}(I:Inv X pins σ H s)(h:CE X.stack X.prog X.w H s Q u s'):EP X pins σ Q u s':=by
 obtain ⟨v,H',os,bare,un,hok,r,q⟩:=h
 obtain ⟨hh,g,d,t,os'⟩:=s'
 obtain rfl:os'=s.os:=os
 exact ⟨v,H',I.call (h':=hh) (g':=g) (d':=d) (t':=t) (ch:=[]) un hok bare (fun b z=>absurd z (by simp)),r,q⟩
end
def zY(sp:Sp)(dvs:List V)(E:XK)(t:TA):TE:=fun σ H Q=>t σ H fun vs H1=>sp (vs++dvs) H1 Q E
def aFK(C:Addr)(sp:Sp)(dvs:List V)(E:XK)(t:TA):TE:=fun σ H Q=>t σ H fun vs H1=>∀ x dx,H1 x=none->H1 dx=none->dx≠x->
 sp (.ref x::(vs++dvs)) (upd (upd H1 dx (.own x)) x (.ins C dx [])) (fun v H2=>v=.non/\Q (.ref x) H2) E
def cS(K:Frag)(fd:FuncData)(ps:List Str)(ds:List Value):Prop:=
 ∀ (s:Shared) (us:List Value),K.In s.heap->(us++ds).length=ps.length->BindsTo s fd ⟨us,[]⟩ (ps.zip (us++ds))
theorem cS.all{K:Frag}{fd:FuncData}{ps:List Str}(h:∀ us:List Value,us.length=ps.length->bindArgs fd ⟨us,[]⟩=pure (ps.zip us)):cS K fd ps []:=fun s us _ hl=>by
 rw[List.append_nil] at hl ⊢
 exact .of_eq (h us hl)
def iC(CX:CXT)(X:Cx)(E:XK):Prop:=∀ (pins:List (Addr×Obj)) (σ:St) (H:Hp) (s:Shared) (e:Value) (s':Shared),Inv X pins σ H s->CX X.stack H s E e s'->X.xe e s'
section
variable{X:Cx}{CX:CXT}{k:Nat}{f C:Addr}{fd:FuncData}{ps:List Str}{sp:Sp}{dvs:List V}{ds:List Value}{E:XK}{x m:Str}{p pos apos:Pos}{e o:Expr}{es:List Expr}{ta:TE}{t:TA}
theorem wC{pins:List (Addr×Obj)}{σ:St}{H:Hp}{s:Shared}{Q:VK}{us:List Value}{vs:List V}(F:FnOk X.prog X.w X.K X.mg X.base CX k f fd ps sp)(hr:Room k X.A)(hb:cS X.K fd ps ds)(hd:bG dvs ds)(hx:iC CX X E)
  (I:Inv X pins σ H s) (r:bG vs us) (h:sp (vs++dvs) H Q E):wpAny (model X.prog X.w) X.A (call (.ref f) us) (EP X pins σ Q) X.xe s:=by
 have r2:bG (vs++dvs) (us++ds):=r.append hd
 have hl:(us++ds).length=ps.length:=by rw[<-r2.length];exact F.len _ _ _ _ h
 refine wpAny_call (codeAny_mono (F.run X.A X.stack s H ⟨us,[]⟩ (us++ds) (vs++dvs) Q E hr I.env0 (hb s us I.kIn hl) r2 h) fun r s' hq=>?_)
 cases r with
 | error e=>exact hx pins σ H s e s' I hq
 | ok fl=>
  cases fl with
  | ret u=>exact I.after hq
  | next=>exact False.elim hq
  | brk=>exact False.elim hq
  | cont=>exact False.elim hq
theorem aGG(F:FnOk X.prog X.w X.K X.mg X.base CX k f fd ps sp)(hr:Room k X.A)(hg:Gl X x)(hm:X.mg x=some (.ref f))(hk:PySem.W.keepIn X.K (.ref f)=true)(hb:cS X.K fd ps ds)(hd:bG dvs ds)(hx:iC CX X E)
  (ha:PA X (e::es) t) (hdb:(x == ("__debug__":Str))=false:=by decide) (he:starEach (e::es) X.env=(false,eval e X.env)::starEach es X.env:=by rfl) (hpl:(backTo pos (starEach es X.env)).any (·.1)=false:=by rfl) :
  PE X (.Call (.Name x p) (e::es) [] pos) (zY sp dvs E t):=by
 intro pins s σ H Q I h
 refine wpAny_Call_Name_kw (pJ I hg hm ?_ hdb)
 refine PySem.W.callWith_K (h₀:=X.base) I.ok.mod.kin hk (thn (ha pos pins s σ H _ I h) fun us s1 ⟨vs,H1,I1,r,q⟩=>⟨I1.kIn,?_⟩) he hpl
 exact wC F hr hb hd hx I1 r q
structure Mk(K:Frag)(C f:Addr):Prop where
 makes:PySem.W.makesIn K C=true
 init:PySem.W.findIn K (.ref C) "__init__"=some (some (.ref f))
 fn:PySem.W.isFn K (.ref f)=true
 kp:PySem.W.keepIn K (.ref C)=true
theorem aDL{pins:List (Addr×Obj)}{σ:St}{H:Hp}{s:Shared}{Q:VK}{us:List Value}{vs:List V}(M:Mk X.K C f)(F:FnOk X.prog X.w X.K X.mg X.base CX k f fd ps sp)(hr:Room (k+1) X.A)(hb:cS X.K fd ps ds)(hd:bG dvs ds)
  (hx:iC CX X E) (I:Inv X pins σ H s) (r:bG vs us)
  (h:∀ x dx,H x=none->H dx=none->dx≠x->sp (.ref x::(vs++dvs)) (upd (upd H dx (.own x)) x (.ins C dx [])) (fun v H2=>v=.non/\Q (.ref x) H2) E) :
  wpAny (model X.prog X.w) X.A (call (.ref C) us) (EP X pins σ Q) X.xe s:=by
 have hq:=h (s.heap.objs.size+1) s.heap.objs.size (I.hok.fresh (Nat.le_succ _)) (I.hok.fresh (Nat.le_refl _)) (Nat.ne_of_lt (Nat.lt_succ_self _))
 have I2:=Inv.made (C:=C) I
 have r2:bG (V.ref (s.heap.objs.size+1)::(vs++dvs)) (Value.ref (s.heap.objs.size+1)::(us++ds)):=.cons rfl (r.append hd)
 have hl:(Value.ref (s.heap.objs.size+1)::us++ds).length=ps.length:=by
  have e:=r2.length
  rw[F.len _ _ _ _ hq] at e
  exact e.symm
 refine wpAny_call (aDK (f:=f) I.kIn M.makes M.init (beq_iff_eq.mp M.fn) (codeAny_mono (F.run _ X.stack _ _ ⟨Value.ref (s.heap.objs.size+1)::us,[]⟩ (Value.ref (s.heap.objs.size+1)::(us++ds)) _ _ E (hr.make C us [])
  (I2.env0.make C us []) (hb _ (Value.ref (s.heap.objs.size+1)::us) I2.kIn hl) r2 hq) fun r s' hq'=>?_))
 cases r with
 | error e=>exact hx pins σ _ _ e s' I2 hq'
 | ok fl=>
  cases fl with
  | ret u=>
   obtain ⟨v,H',I3,rv,ev,q3⟩:=I2.after hq'
   subst ev
   exact ⟨rv,⟨V.ref (s.heap.objs.size+1),H',I3,rfl,q3⟩⟩
  | next=>exact False.elim hq'
  | brk=>exact False.elim hq'
  | cont=>exact False.elim hq'
theorem aGH(M:Mk X.K C f)(F:FnOk X.prog X.w X.K X.mg X.base CX k f fd ps sp)(hr:Room (k+1) X.A)(hg:Gl X x)(hm:X.mg x=some (.ref C))(hb:cS X.K fd ps ds)(hd:bG dvs ds)(hx:iC CX X E)
  (ha:PA X (e::es) t) (hdb:(x == ("__debug__":Str))=false:=by decide) (he:starEach (e::es) X.env=(false,eval e X.env)::starEach es X.env:=by rfl) (hpl:(backTo pos (starEach es X.env)).any (·.1)=false:=by rfl) :
  PE X (.Call (.Name x p) (e::es) [] pos) (aFK C sp dvs E t):=by
 intro pins s σ H Q I h
 refine wpAny_Call_Name_kw (pJ I hg hm ?_ hdb)
 refine PySem.W.callWith_K (h₀:=X.base) I.ok.mod.kin M.kp (thn (ha pos pins s σ H _ I h) fun us s1 ⟨vs,H1,I1,r,q⟩=>⟨I1.kIn,?_⟩) he hpl
 exact aDL M F hr hb hd hx I1 r q
end
section
variable{X:Cx}{CX:CXT}{k:Nat}{f C:Addr}{fd:FuncData}{ps ks:List Str}{sp:Sp}{E:XK}{x m:Str}{p pos apos kpos:Pos}{e o:Expr}{es:List Expr}{kws:List Keyword}{te ta:TE}{t tk:TA}{nm:Option Str}
structure KBinds(K:Frag)(fd:FuncData)(ps ks:List Str)(g:List Value->List Value->List Value)(gV:List V->List V->List V):Prop where
 to:∀ (s:Shared) (us ws:List Value),K.In s.heap->(g us ws).length=ps.length->BindsTo s fd ⟨us,ks.zip ws⟩ (ps.zip (g us ws))
 rel:∀ {vs:List V} {us:List Value} {zs:List V} {ws:List Value},bG vs us->bG zs ws->bG (gV vs zs) (g us ws)
variable{g:List Value->List Value->List Value}{gV:List V->List V->List V}
end
structure FnScope(N P:List Str)(sc:Scope):Prop where
 kind:sc.kind=.function
 co:sc.isCoroutine=false
 gen:sc.isGenerator=false
 nd:N.Nodup
 pre:N.take P.length=P
 par:∀ x∈P,sc.names.lookup x=some .local\/sc.names.lookup x=some .cell
 nofree:∀ y∈sc.names,y.2≠.free
theorem tY{kindOf:Str->Option NameKind}{x:Str}:∀ {binds:List (Str×Value)} {m:Str->Option Value},(∀ v,(x,v)∉binds)->bindL kindOf binds m x=m x
 | [],_,_=>rfl
 | (n,v)::r,m,h=>by
  unfold bindL
  rw[tY fun w hw=>h w (List.mem_cons_of_mem _ hw)]
  split
  ·have:x≠n:=by rintro rfl;exact h v List.mem_cons_self
   simp[this]
  ·rfl
theorem tZ{kindOf:Str->Option NameKind}{x:Str}:∀ {binds:List (Str×Value)} {m:Str->Option Value},(∀ v,(x,v)∉binds)->bindC kindOf binds m x=m x
 | [],_,_=>rfl
 | (n,v)::r,m,h=>by
  unfold bindC
  rw[tZ fun w hw=>h w (List.mem_cons_of_mem _ hw)]
  split
  ·rfl
  ·have:x≠n:=by rintro rfl;exact h v List.mem_cons_self
   simp[this]
theorem t4{kindOf:Str->Option NameKind}{x:Str}{v:Value}:∀ {P:List Str} {vs:List Value} {i:Nat} {m:Str->Option Value},P.Nodup->P[i]? = some x->vs[i]? = some v->kindOf x=some .local->
  bindL kindOf (P.zip vs) m x=some v
 | [],_,_,_,_,h,_,_=>by simp at h
 | _::_,[],_,_,_,_,h,_=>by simp at h
 | p::P,w::vs,0,m,nd,h1,h2,hk=>by
  simp at h1 h2;subst h1;subst h2
  show bindL kindOf ((p,w)::P.zip vs) m p=_
  unfold bindL
  rw[tY fun v hv=>(List.nodup_cons.mp nd).1 (List.of_mem_zip hv).1,if_pos hk]
  simp
 | p::P,w::vs,i+1,m,nd,h1,h2,hk=>by
  show bindL kindOf ((p,w)::P.zip vs) m x=_
  unfold bindL
  exact t4 (i:=i) (List.nodup_cons.mp nd).2 (by simpa using h1) (by simpa using h2) hk
theorem t5{kindOf:Str->Option NameKind}{x:Str}{v:Value}:∀ {P:List Str} {vs:List Value} {i:Nat} {m:Str->Option Value},P.Nodup->P[i]? = some x->vs[i]? = some v->kindOf x≠some .local->
  bindC kindOf (P.zip vs) m x=some v
 | [],_,_,_,_,h,_,_=>by simp at h
 | _::_,[],_,_,_,_,h,_=>by simp at h
 | p::P,w::vs,0,m,nd,h1,h2,hk=>by
  simp at h1 h2;subst h1;subst h2
  show bindC kindOf ((p,w)::P.zip vs) m p=_
  unfold bindC
  rw[tZ fun v hv=>(List.nodup_cons.mp nd).1 (List.of_mem_zip hv).1,if_neg hk]
  simp
 | p::P,w::vs,i+1,m,nd,h1,h2,hk=>by
  show bindC kindOf ((p,w)::P.zip vs) m x=_
  unfold bindC
  exact t5 (i:=i) (List.nodup_cons.mp nd).2 (by simpa using h1) (by simpa using h2) hk
noncomputable def start(N:List Str)(vs:List V):St:=vs.map some++List.replicate (N.length - vs.length) none
noncomputable def iH(CX:CXT)(P:Program)(w:World)(K:Frag)(mg:Str->Option Value)(base:Heap)(N:List Str)(qual:Str)(scope:Scope)(f:Addr)(cd:Value)(A:Around)(outer:List Env)(s:Shared)(H:Hp)(E:XK):Cx where
 prog:=P
 w:=w
 K:=K
 mg:=mg
 base:=base
 A:=A.deeper (envOfC qual scope s.heap.objs.size f cd)
 N:=N
 s₀:=s
 H₀:=H
 env:=envOfC qual scope s.heap.objs.size f cd
 outer:=outer
 stack:=envOfC qual scope s.heap.objs.size f cd::outer
 ex:=[]
 calm:=true
 fn:=fun _=>true
 pn:=[]
 xe:=fun e s'=>wpAny (model P w) (A.deeper (envOfC qual scope s.heap.objs.size f cd)) (leaving (envOfC qual scope s.heap.objs.size f cd) e) (fun _ s''=>CX outer H s E e s'') (fun e' s''=>CX outer H s E e' s'') s'
theorem wD{sc:Scope}{n:Nat}{x:Str}(h:sc.names.lookup x=some .cell):∃ c,(cellsFrom n sc.names []).lookup x=some c:=by
 have q:=PySem.W.cellsFrom_some sc.names n [] (.inl h)
 exact Option.isSome_iff_exists.mp q
theorem aBK{CX:CXT}{P:Program}{w:World}{K:Frag}{mg:Str->Option Value}{base:Heap}{N ps:List Str}{qual:Str}{scope:Scope}{f:Addr}{cd:Value}{A:Around}{outer:List Env}{s s1:Shared}{H:Hp}{E:XK}{us:List Value}{vs:List V}
  (S:FnScope N ps scope) (hd:A.handled=none) (e0:Env0 P w K mg base A outer s H) (hl:vs.length=ps.length) (r:bG vs us)
  (x:InCallC s s.heap.objs.size (bindL (envOfC qual scope s.heap.objs.size f cd).kindOf (ps.zip us) fun _=>none) (cellsFrom (s.heap.objs.size+1) scope.names []) (bindC (envOfC qual scope s.heap.objs.size f cd).kindOf (ps.zip us) fun _=>none) s1) :
  Inv (iH CX P w K mg base N qual scope f cd A outer s H E) [] (start N vs) H s1:=by
 have hpl:ps.length<=N.length:=by have:=congrArg List.length S.pre;rw[List.length_take] at this;omega
 obtain ⟨h1,tk,rfl,hk⟩:=x.done
 have noA:∀ b:Addr,b∉(iH CX P w K mg base N qual scope f cd A outer s H E).ex:=fun b z=>absurd (show b∈([]:List Addr) from z) (by simp)
 refine ⟨⟨e0.mod,S.kind,rfl,rfl,Nat.le_refl _,fun y z c h1 h2=>?_,fun y hy=>?_,fun y c _ h=>?_,fun _=>hd,Around.frames_deeper e0.frames,.inr ⟨rfl,rfl⟩,fun b z=>absurd z (noA b),e0.bs,e0.bsz,fun b _ _=>noA b,fun b z=>absurd z (noA b),e0.funs,e0.frf⟩,
  rfl,e0.bare,Un.kept hk,⟨_,x.toInCall.ns,fun i y v h1 h2 h3=>?_⟩,fun y c h=>⟨_,x.cell y c h⟩,e0.hok.fresh (Nat.le_refl _),fun y c h=>?_,fun p hp=>absurd (show p∈([]:List (Addr×Obj)) from hp) (by simp),e0.hok.kept hk,?_⟩
 ·exact name_of_addr x.apart (PySem.mem_of_lookup h1) (PySem.mem_of_lookup h2)
 ·have hy:scope.names.lookup y=some .cell\/scope.names.lookup y=some .free:=hy
  rcases hy with hy|hy
  ·exact wD hy
  ·exact absurd rfl (S.nofree _ (PySem.mem_of_lookup hy))
 ·exact Nat.le_of_lt (x.above y c (PySem.mem_of_lookup h))
 ·have hi:i < vs.length:=by
   unfold start at h2
   by_cases hi:i < vs.length
   ·exact hi
   ·rw[List.getElem?_append_right (by simpa using hi)] at h2
    rw[List.getElem?_replicate] at h2
    split at h2<;>cases h2
  have ha:vs[i]? = some v:=by
   unfold start at h2
   rw[List.getElem?_append_left (by simpa using hi),List.getElem?_map] at h2
   cases e:vs[i]? with
   | none=>rw[e] at h2;cases h2
   | some a=>rw[e] at h2;cases h2;rfl
  obtain ⟨u,hu,rv⟩:=r.get ha
  have hp:ps[i]? = some y:=by
   rw[<-S.pre,List.getElem?_take_of_lt (by omega)];exact h1
  have ndP:ps.Nodup:=by rw[<-S.pre];exact S.nd.sublist (List.take_sublist _ _)
  refine ⟨u,rv,?_⟩
  rcases S.par y (List.mem_of_getElem? hp) with k|k
  ·exact .inl ⟨k,t4 ndP hp hu k⟩
  ·obtain ⟨c,e⟩:=wD (n:=s.heap.objs.size+1) k
   refine .inr ⟨.inl k,c,e,?_⟩
   have q:=x.cell y c e
   rw[t5 ndP hp hu (by show scope.names.lookup y≠_;rw[k];decide)] at q
   exact q
 ·exact e0.hok.fresh (Nat.le_of_lt (x.above y c (PySem.mem_of_lookup h)))
 ·unfold start
  show _=N.length
  rw[List.length_append,List.length_map,List.length_replicate]
  omega
theorem aFL{CX:CXT}{P:Program}{w:World}{K:Frag}{mg:Str->Option Value}{base:Heap}{k:Nat}{f:Addr}{name qual:Str}{params:Arguments}{body:List Stmt}{scope:Scope}{dV kV doc pm cdv ct oc:Value}{an od:Option Addr}
  {osl:Array (Option Value)} {N ps:List Str} {sp:Sp} (lk:K.lookup f=some ⟨oc,od,.func (PySem.W.fnOf name qual params body scope dV kV doc pm an cdv ct),osl⟩) (hcd:PySem.W.codeIn K cdv qual=true) (S:FnScope N ps scope)
  (len:∀ vs H Q E,sp vs H Q E->vs.length=ps.length)
  (hbody:∀ (A:Around) (outer:List Env) (s:Shared) (H:Hp) (vs:List V) (Q:VK) (E:XK),Room k (A.deeper (envOfC qual scope s.heap.objs.size f cdv))->sp vs H Q E->
   ∃ t,PSs (iH CX P w K mg base N qual scope f cdv A outer s H E) body t/\t {nx:=fun _ H'=>Q .non H',rt:=Q} (start N vs) H) :
  FnOk P w K mg base CX (k+1) f (PySem.W.fnOf name qual params body scope dV kV doc pm an cdv ct) ps sp:=by
 refine ⟨len,fun A outer s H args us vs Q E hr e0 hb r hsp=>?_⟩
 have hl:=len _ _ _ _ hsp
 have KX:K.In s.heap:=e0.mod.kin.keeps fun b o e=>(e0.bs b o e).1
 have lim:s.heap.NoLimit:=e0.mod.nolimit.keeps fun b o e=>(e0.bs b o e).1
 have hkind:∀ y∈ps.zip us,scope.names.lookup y.1=some .local\/(scope.names.lookup y.1=some .cell/\((cellsFrom (s.heap.objs.size+1) scope.names []).lookup y.1).isSome=true):=fun zz0 hy=>by
  obtain ⟨n,v⟩:=zz0
  rcases S.par n (List.of_mem_zip hy).1 with q|q
  ·exact .inl q
  ·exact .inr ⟨q,PySem.W.cellsFrom_some _ _ _ (.inl q)⟩
 refine codeAny_call_function hr.depth (KX _ _ lk) rfl S.co S.gen rfl (PySem.W.codeRec_of KX hcd) (hb _ _ _ _ ?_)
 refine wpAny_newFunctionEnv_cells S.kind hkind fun env he s1 x=>?_
 subst he
 refine ⟨lim.keeps x.toInCall.keep,codeAny_func ?_⟩
 obtain ⟨t,ht,hq⟩:=hbody A outer s H vs Q E (hr.deeper _) hsp
 have I:Inv (iH CX P w K mg base N qual scope f cdv A outer s H E) [] (start N vs) H s1:=aBK S hr.hd e0 hl r x
 refine wpAny_mono (ht [] s1 (start N vs) H _ I hq) (fun fl s' hs=>?_) fun e s' hs=>hs
 have fin:∀ {σ':St} {H':Hp} {v:V} {u:Value},Inv (iH CX P w K mg base N qual scope f cdv A outer s H E) [] σ' H' s'->bH v u->Q v H'->CE outer P w H s Q u s':=
  fun {σ' H' v u} J rv q=>⟨v,H',J.os,J.bare,J.base,J.hok,rv,q⟩
 cases fl with
 | ret u=>
  obtain ⟨v,σ',H',J,rv,q⟩:=hs
  exact fin J rv q
 | next=>
  obtain ⟨σ',H',J,q⟩:=hs
  exact fin (v:=V.non) (u:=Value.none) J rfl q
 | brk=>
  obtain ⟨_,_,_,q⟩:=hs
  exact False.elim q
 | cont=>
  obtain ⟨_,_,_,q⟩:=hs
  exact False.elim q
end L2
namespace L2
open PySem PySem.Spec PyProof.Rows
section
variable{X:Cx}{x:Str}{p pos:Pos}{e:Expr}{es:List Expr}{t:TA}{id T:String}{r:List V->Hp->VK->Prop}
def tCB(r:List V->Hp->VK->Prop)(t:TA):TE:=fun σ H Q=>t σ H fun vs H1=>r vs H1 Q
theorem bR(hc:iU X (.builtin id) r)(hg:Gl X x)(hm:X.mg x=none)(hv:bootBuiltins x=some (.builtin id))(ha:PA X (e::es) t)(hn:x≠"__name__":=by decide)(hdb:(x == ("__debug__":Str))=false:=by decide)
  (he:starEach (e::es) X.env=(false,eval e X.env)::starEach es X.env:=by rfl) (hpl:(backTo pos (starEach es X.env)).any (·.1)=false:=by rfl):PE X (.Call (.Name x p) (e::es) [] pos) (tCB r t):=by
 intro pins s σ H Q I h
 refine wpAny_Call_Name_kw (j4 I hg hm hv ?_ hn hdb)
 exact PyProof.Rows.callWith_builtin1 (thn (ha pos pins s σ H _ I h) fun us s1 ⟨vs,H1,I1,r1,q1⟩=>hc pins s1 σ H1 vs us Q I1 r1 q1) he hpl
theorem gK(hc:iU X (.type T) r)(hg:Gl X x)(hm:X.mg x=none)(hv:bootBuiltins x=some (.type T))(ha:PA X (e::es) t)(hn:x≠"__name__":=by decide)(hdb:(x == ("__debug__":Str))=false:=by decide)
  (he:starEach (e::es) X.env=(false,eval e X.env)::starEach es X.env:=by rfl) (hpl:(backTo pos (starEach es X.env)).any (·.1)=false:=by rfl):PE X (.Call (.Name x p) (e::es) [] pos) (tCB r t):=by
 intro pins s σ H Q I h
 refine wpAny_Call_Name_kw (j4 I hg hm hv ?_ hn hdb)
 exact PyProof.Rows.callWith_type1 (thn (ha pos pins s σ H _ I h) fun us s1 ⟨vs,H1,I1,r1,q1⟩=>hc pins s1 σ H1 vs us Q I1 r1 q1) he hpl
end
end L2
namespace HT
open PySem PyProof.Rows
section
open PySem.SeqAt
open PySem.AutoSeq1 (wpAny_loadPart')
open PySem.MeetsSeq PySem.MeetsSeq2 PySem.MeetsSeq3
end
section
variable{prog:Program}{w:World}{A:Around}{E:Value->Shared->Prop}{s:Shared}
theorem aGI{t b:Addr}{vs ws:List Value}{Q:Value->Shared->Prop}(ht:IsTup s.heap t vs.toArray)(hb:IsTup s.heap b ws.toArray)(hv:vs≠[])
  (h1:ws=[]->Q (.ref t) s) (h2:ws≠[]->Q (.ref s.heap.objs.size) {s with heap:=s.heap.push {cls:=.type "tuple",data:=.seq (vs++ws).toArray}})
  (hsz:vs.length+ws.length<=sizeLine):wpAny (model prog w) A (binaryOp .Add (.ref t) (.ref b)) Q E s:=by
 obtain ⟨⟨cls,dd,data,sl⟩,ho,hc,n,hd⟩:=id ht
 obtain ⟨⟨cls2,dd2,data2,sl2⟩,ho2,hc2,n2,hd2⟩:=id hb
 simp only at hc hd hc2 hd2
 subst hc hd hc2 hd2
 have e:vs.toArray++ws.toArray=(vs++ws).toArray:=by simp
 by_cases hw:ws=[]
 ·exact concat_meets ⟨_,ho,rfl⟩ ⟨_,ho2,rfl⟩ noFill_tuple_add seq_tuple_add PySem.F.slot_tuple_add PySem.F.entry_tuple_add (PySem.F.args_tuple_add_2 _ _)
   (tuple_addW1 t b vs.toArray ws.toArray n n2 dd dd2 sl sl2 (by simpa using hv) (by simp[hw])) ⟨ho,ho2,h1 hw⟩
 ·refine concat_meets ⟨_,ho,rfl⟩ ⟨_,ho2,rfl⟩ noFill_tuple_add seq_tuple_add PySem.F.slot_tuple_add PySem.F.entry_tuple_add (PySem.F.args_tuple_add_2 _ _)
   (tuple_addW2 t b vs.toArray ws.toArray n n2 dd dd2 sl sl2 (by simpa using hv) (by simpa using hw) (by rw[List.size_toArray,List.size_toArray];exact hsz)) ⟨ho,ho2,?_⟩
  rw[e]
  exact h2 hw
noncomputable def sIx(n d:Nat):Option Int->Nat
 | none=>d
 | some v=>if v < 0 then (v+(n:Int)).toNat else min v.toNat n
theorem aDM(n d:Nat):sIx n d none=d:=rfl
theorem aGJ(n d k:Nat):sIx n d (some (k:Int))=min k n:=by
 show (if (k:Int) < 0 then ((k:Int)+(n:Int)).toNat else min (k:Int).toNat n)=min k n
 rw[if_neg (by omega),Int.toNat_natCast]
theorem aIV(n d:Nat)(hd:d<=n)(o:Option Int):sIx n d o<=n:=by
 cases o with
 | none=>exact hd
 | some v=>
  show (if v < 0 then (v+(n:Int)).toNat else min v.toNat n)<=n
  by_cases hv:v < 0
  · rw [if_pos hv]; omega
  · rw [if_neg hv]; exact Nat.min_le_right _ _
theorem yK(v:Int)(n d:Nat):(if v < 0 then max (v+(n:Int)) 0 else min v (n:Int))=((sIx n d (some v):Nat):Int):=by
 show (if v < 0 then max (v+(n:Int)) 0 else min v (n:Int))=(((if v < 0 then (v+(n:Int)).toNat else min v.toNat n):Nat):Int)
 by_cases hv:v < 0
 · simp only [if_pos hv]; omega
 · simp only [if_neg hv]; omega
theorem zZ(lo hi:Option Int)(n:Nat):Builtin.Slice.sliceAdjust lo hi 1 (n:Int)=(((sIx n 0 lo:Nat):Int),((sIx n n hi:Nat):Int)):=by
 have h1:¬ ((1:Int) < 0):=by omega
 unfold Builtin.Slice.sliceAdjust
 simp only[h1,if_false]
 refine Prod.ext ?_ ?_
 ·cases lo with
  | none=>rfl
  | some v=>exact yK v n 0
 ·cases hi with
  | none=>rfl
  | some v=>exact yK v n n
theorem z0(i j:Nat):Builtin.Slice.slicePlaces (i:Int) (j:Int) 1=j - i:=by
 unfold Builtin.Slice.slicePlaces
 have h1:(1:Int) > 0:=by omega
 simp only[h1,if_true,Int.ediv_one]
 split<;>omega
theorem rA{v:Value}{o:Option Int}{Q:Option Int->Shared->Prop}(p:IsPart v o)(h:Q o s):wpAny (model prog w) A (Builtin.Slice.slicePartIndex v) Q E s:=by
 cases p with
 | none=>exact slicePart_none h
 | int i t=>exact slicePart_int h
theorem qL{sl:Addr}{vl vu:Value}{lo hi:Option Int}{n:Nat}{Q:Int×Int×Nat->Shared->Prop}(hs:s.heap.IsSliceOf sl vl vu .none)(pl:IsPart vl lo)(pu:IsPart vu hi)
  (h:Q (((sIx n 0 lo:Nat):Int),1,sIx n n hi - sIx n 0 lo) s):wpAny (model prog w) A (Builtin.Slice.sliceApplied (.ref sl) (pure (n:Int))) Q E s:=by
 obtain ⟨os,hos,hcs,hds⟩:=id hs
 unfold Builtin.Slice.sliceApplied Builtin.Slice.sliceFields
 refine wpAny_bind (wpAny_bind (wpAny_field hos hds (x:=vl) rfl (wpAny_bind (wpAny_field hos hds (x:=vu) rfl (wpAny_bind (wpAny_field hos hds (x:=.none) rfl (wpAny_pure ?_)))))))
 refine wpAny_bind (slicePart_none ?_)
 show wpAny _ _ (if ((1:Int) == 0)=true then _ else _) _ _ s
 rw[if_neg (by decide)]
 refine wpAny_bind (rA pl (wpAny_bind (rA pu (wpAny_bind (wpAny_pure ?_)))))
 show wpAny _ _ (match Builtin.Slice.sliceAdjust lo hi 1 (n:Int) with|(lo,hi)=>pure (lo,(1:Int),Builtin.Slice.slicePlaces lo hi 1)) _ _ s
 rw[zZ lo hi n]
 show wpAny _ _ (pure (((sIx n 0 lo:Nat):Int),(1:Int),Builtin.Slice.slicePlaces ((sIx n 0 lo:Nat):Int) ((sIx n n hi:Nat):Int) 1)) _ _ s
 rw[z0]
 exact wpAny_pure h
theorem aDN(xs:Array Value)(i k:Nat):((List.range k).filterMap fun (m:Nat)=>xs[((i:Int)+(m:Int) * 1).toNat]?).toArray=((xs.toList.drop i).take k).toArray:=by
 have e:(fun (m:Nat)=>xs[((i:Int)+(m:Int) * 1).toNat]?)=fun m=>xs[i+m]?:=by
  funext m
  have:((i:Int)+(m:Int) * 1).toNat=i+m:=by omega
  rw[this]
 rw[e]
 have:=pick_run xs i k
 rw[List.filterMap_map] at this
 have e2:((fun x=>xs[x]?)∘fun x=>i+x)=fun m=>xs[i+m]?:=rfl
 rw[e2] at this
 rw[this]
theorem pW{t sl:Addr}{items:Array Value}{vl vu:Value}{lo hi:Option Int}{Q:Value->Shared->Prop}(ht:IsTup s.heap t items)(hs:s.heap.IsSliceOf sl vl vu .none)(pl:IsPart vl lo)(pu:IsPart vu hi)
  (hw:¬ (sIx items.size 0 lo=0/\sIx items.size items.size hi=items.size))
  (h:Q (.ref s.heap.objs.size) {s with heap:=s.heap.push {cls:=.type "tuple",data:=.seq ((items.toList.drop (sIx items.size 0 lo)).take (sIx items.size items.size hi - sIx items.size 0 lo)).toArray}})
  (hsz:items.size<=sizeLine):wpAny (model prog w) A (getItem (.ref t) (.ref sl)) Q E s:=by
 have htake:sizeOk (.seq ((items.toList.drop (sIx items.size 0 lo)).take (sIx items.size items.size hi - sIx items.size 0 lo)).toArray):=by
  show ((items.toList.drop (sIx items.size 0 lo)).take (sIx items.size items.size hi - sIx items.size 0 lo)).toArray.size<=sizeLine
  rw[List.size_toArray,List.length_take,List.length_drop,Array.length_toList]
  omega
 have hj:sIx items.size items.size hi<=items.size:=aIV _ _ (Nat.le_refl _) hi
 obtain ⟨os,hos,hcs,hds⟩:=id hs
 have hTs:s.TypeIs (.ref sl) "slice":=⟨os,hos,hcs⟩
 unfold getItem
 try with_reducible refine wpAny_holding ?_
 first|refine wpAny_bind (wpAny_pure ?_)|skip
 refine wpAny_bind (wpAny_sequenceKey ht.typeIs (by decide) ?_)
 refine wpAny_bind (wpAny_callSpecial?_slot (name:=Str.ofString "__getitem__") ht.typeIs PyProof.Rows.slot_tuple_getitem
  (wpAny_call_entry PyProof.Rows.slot_tuple_getitem ht.typeIs entry_tuple_getitem ?_ (args_tuple_getitem _ _)))
 show wpAny _ _ (Builtin.Tuple.tupleItemsOf (.ref t) >>= _) _ _ s
 refine wpAny_bind (tupleItemsOf_ ht ?_)
 refine wpAny_bind (wpAny_typeOf hTs ?_)
 rw[if_pos (by decide)]
 refine wpAny_bind (qL hs pl pu ?_)
 have hno:¬ ((((sIx items.size 0 lo:Nat):Int) == 0 && (1:Int) == 1 && (sIx items.size items.size hi - sIx items.size 0 lo) == items.size)=true):=by
  intro q
  rw[Bool.and_eq_true,Bool.and_eq_true] at q
  have q1:((sIx items.size 0 lo:Nat):Int)=0:=eq_of_beq q.1.1
  have q2:sIx items.size items.size hi - sIx items.size 0 lo=items.size:=eq_of_beq q.2
  exact hw ⟨by omega,by omega⟩
 show wpAny _ _ (if (((sIx items.size 0 lo:Nat):Int) == 0 && (1:Int) == 1 && (sIx items.size items.size hi - sIx items.size 0 lo) == items.size)=true then _ else _) _ _ s
 rw[if_neg hno,aDN]
 first
  | exact wpAny_bind (m:=Builtin.Tuple.tupleExact _) (wpAny_newObj_type (wpAny_pure ⟨_,rfl,wpAny_pure h⟩) htake)
  | exact wpAny_bind (m:=Builtin.Tuple.tupleExact _) (wpAny_newObj_type (wpAny_bind (wpAny_pure (wpAny_pure ⟨_,rfl,wpAny_pure h⟩))) htake)
  | exact wpAny_bind (wpAny_bind (m:=Builtin.Tuple.tupleExact _) (wpAny_newObj_type (wpAny_pure (wpAny_pure ⟨_,rfl,wpAny_pure h⟩)) htake))
  | exact wpAny_bind (wpAny_bind (m:=Builtin.Tuple.tupleExact _) (wpAny_newObj_type (wpAny_pure ⟨_,rfl,wpAny_pure h⟩) htake))
end
end HT
namespace L2
open PySem PySem.Spec PyProof.Rows
abbrev TO:=St->Hp->(Option Int->Hp->Prop)->Prop
def PO(X:Cx)(e:Option Expr)(t:TO):Prop:=
 ∀ (pins:List (Addr×Obj)) (s:Shared) (σ:St) (H:Hp) (Q:Option Int->Hp->Prop),Inv X pins σ H s->t σ H Q->
  wpAny (model X.prog X.w) X.A (evalPart e X.env) (fun u s'=>∃ o H',Inv X pins σ H' s'/\IsPart u o/\Q o H') X.xe s
def aGK:TO:=fun _ H Q=>Q none H
def aK2(t:TE):TO:=fun σ H Q=>t σ H fun x H1=>∃ i,x=.int i/\Q (some i) H1
section
variable{X:Cx}{e:Expr}{te:TE}{lo hi:Option Expr}{tl th:TO}{pos p2:Pos}
theorem aGL:PO X none aGK:=by
 intro pins s σ H Q I h
 rw[evalPart_none]
 exact wpAny_pure ⟨none,H,I,.none,h⟩
theorem aGM(h:PE X e te):PO X (some e) (aK2 te):=by
 intro pins s σ H Q I hw
 rw[evalPart_some]
 refine thn (h pins s σ H _ I hw) fun u s1 zz0=>?_
 obtain ⟨x,H1,I1,r1,q1⟩:=zz0
 obtain ⟨i,rfl,q⟩:=q1
 obtain ⟨t,rfl⟩:=r1
 exact ⟨some i,H1,I1,.int i t,q⟩
def SlR(X:Cx)(r:V->Option Int->Option Int->Hp->VK->Prop):Prop:=
 ∀ (pins:List (Addr×Obj)) (s:Shared) (σ:St) (H:Hp) (x:V) (v vl vu:Value) (lo hi:Option Int) (sl:Addr) (Q:VK),Inv X pins σ H s->bH x v->s.heap.IsSliceOf sl vl vu .none->IsPart vl lo->IsPart vu hi->r x lo hi H Q->
  ∃ T id,typeLookup (.type T) "__getitem__"=pure (some (.builtin id))/\s.TypeIs v T/\wpAny (model X.prog X.w) X.A (getItem v (.ref sl)) (EP X pins σ Q) X.xe s
def tSl(r:V->Option Int->Option Int->Hp->VK->Prop)(te:TE)(tl th:TO):TE:=fun σ H Q=>te σ H fun x H1=>tl σ H1 fun l H2=>th σ H2 fun u H3=>r x l u H3 Q
theorem aDO{r:V->Option Int->Option Int->Hp->VK->Prop}(hr:SlR X r)(he:PE X e te)(hl:PO X lo tl)(hu:PO X hi th):PE X (.Subscript e (.Slice lo hi none p2) pos) (tSl r te tl th):=by
 intro pins s σ H Q I h
 refine Subscript_ (thn (he pins s σ H _ I h) fun v s1 zz0=>?_)
 obtain ⟨x,H1,I1,r1,q1⟩:=zz0
 refine wpAny_Slice (thn (hl pins s1 σ H1 _ I1 q1) fun vl s2 ⟨l,H2,I2,pl,q2⟩=>thn (hu pins s2 σ H2 _ I2 q2) fun vu s3 zz0=>?_)
 obtain ⟨u,H3,I3,pu,q3⟩:=zz0
 rw[evalPart_none]
 refine wpAny_pure ?_
 have I4:Inv X pins σ H3 {s3 with heap:=s3.heap.push {cls:=.type "slice",data:=.fields #[vl,vu,.none]}}:=I3.kept (t':=s3.toks) fun b ob q=>Heap.get?_push_of_some _ q
 obtain ⟨T,id,hT,ht,hg⟩:=hr pins {s3 with heap:=s3.heap.push {cls:=.type "slice",data:=.fields #[vl,vu,.none]}} σ H3 x v vl vu l u s3.heap.objs.size Q I4 r1 (Heap.IsSliceOf.new ..) pl pu q3
 show wpAny (model X.prog X.w) X.A (subscriptTail e (.Slice lo hi none p2) v (.ref s3.heap.objs.size)) (EP X pins σ Q) X.xe {s3 with heap:=s3.heap.push {cls:=.type "slice",data:=.fields #[vl,vu,.none]}}
 exact tail_any (ops:=[.ref s3.heap.objs.size,v]) ht hT hg (by with_unfolding_all rfl)
noncomputable def oK(xs:List V)(lo hi:Option Int):List V:=(xs.drop (HT.sIx xs.length 0 lo)).take (HT.sIx xs.length xs.length hi - HT.sIx xs.length 0 lo)
theorem qD(xs:List V)(lo hi:Option Int):(oK xs lo hi).length<=xs.length:=by
 unfold oK
 rw[List.length_take,List.length_drop]
 omega
def aMA(K:Frag):V->Option Int->Option Int->Hp->VK->Prop:=fun x lo hi H Q=>∃ a xs,x=.ref a/\SqT K H a xs /\
 ¬ (HT.sIx xs.length 0 lo=0/\HT.sIx xs.length xs.length hi=xs.length)/\∀ p,H p=none->Q (.ref p) (upd H p (.tup (oK xs lo hi)))
theorem aIW:SlR X (aMA X.K):=by
 intro pins s σ H x v vl vu lo hi sl Q I rx hs pl pu h
 obtain ⟨a,xs,rfl,hx,hw,q⟩:=h
 cases rx
 obtain ⟨its,r,ht,hz⟩:=I.tuple hx
 have hlen:its.toArray.size=xs.length:=by rw[List.size_toArray];exact r.length.symm
 refine ⟨"tuple",_,PyProof.Rows.slot_tuple_getitem.lookup,ht.typeIs,?_⟩
 refine HT.pW ht hs pl pu (by rw[hlen];exact hw) ?_ (by rw[hlen];exact hz)
 rw[hlen]
 refine ⟨.ref s.heap.objs.size,_,I.laid (t':=s.toks) (o:=.tup (oK xs lo hi)) (fun b ob q=>Heap.get?_push_of_some _ q) (Nat.le_refl _) ?_,rfl,q _ (I.hok.fresh (Nat.le_refl _))⟩
 exact ⟨Nat.le_trans (qD xs lo hi) hz,_,(r.drop (HT.sIx xs.length 0 lo)).take (HT.sIx xs.length xs.length hi - HT.sIx xs.length 0 lo),IsTup.new _ _⟩
def aK3(K:Frag):R2:=fun x y H Q=>∃ a b xs ys,x=.ref a/\y=.ref b/\SqT K H a xs/\SqT K H b ys/\xs≠[]/\xs.length+ys.length<=sizeLine /\
 (ys=[]->Q (.ref a) H)/\(ys≠[]->∀ p,H p=none->Q (.ref p) (upd H p (.tup (xs++ys))))
theorem bG.nil_iff{xs:List V}{us:List Value}(r:bG xs us):us=[]↔xs=[]:=by
 cases r with
 | nil=>simp
 | cons _ _=>simp
theorem aGN:OpR X (binaryOp .Add) (aK3 X.K):=by
 intro pins s σ H x y v u Q I rx ry h
 obtain ⟨a,b,xs,ys,rfl,rfl,ha,hb,hx,hz,q1,q2⟩:=h
 cases rx
 cases ry
 obtain ⟨its,r1,p1,_⟩:=I.tuple ha
 obtain ⟨its2,r2,p2,_⟩:=I.tuple hb
 refine HT.aGI p1 p2 (fun z=>hx (r1.nil_iff.mp z)) (fun z=>⟨.ref a,H,I,rfl,q1 (r2.nil_iff.mp z)⟩) (fun z=>?_) (by rw[<-r1.length,<-r2.length];exact hz)
 refine ⟨.ref s.heap.objs.size,_,I.laid (t':=s.toks) (o:=.tup (xs++ys)) (fun b ob q=>Heap.get?_push_of_some _ q) (Nat.le_refl _) ?_,rfl,q2 (fun w=>z (r2.nil_iff.mpr w)) _ (I.hok.fresh (Nat.le_refl _))⟩
 exact ⟨by rw[List.length_append];exact hz,_,r1.append r2,IsTup.new _ _⟩
end
end L2
namespace L2
open PySem PySem.Spec PyProof.Rows
noncomputable def ixN(n:Nat)(i:Int):Option Nat:=if 0<=i then (if i < n then some i.toNat else none) else if -(n:Int)<=i then some (i+n).toNat else none
noncomputable def atI{α:Type}(xs:List α)(i:Int):Option α:=(ixN xs.length i).bind fun j=>xs[j]?
theorem yL{n:Nat}{i:Int}{j:Nat}(h:ixN n i=some j):seqIndex? i n=some j/\j < n /\ -(n:Int)<=i/\i < n:=by
 unfold ixN at h
 by_cases h0:0<=i
 ·rw[if_pos h0] at h
  by_cases h1:i < n
  ·rw[if_pos h1] at h
   have e:i.toNat=j:=Option.some.inj h
   exact ⟨by rw[seqIndex_of h0 h1,e],by omega,by omega,h1⟩
  ·rw[if_neg h1] at h;cases h
 ·rw[if_neg h0] at h
  by_cases h1 : -(n:Int)<=i
  ·rw[if_pos h1] at h
   have e:(i+n).toNat=j:=Option.some.inj h
   exact ⟨by rw[seqIndex_neg (by omega) h1,e],by omega,h1,by omega⟩
  ·rw[if_neg h1] at h;cases h
theorem sL{α:Type}{xs:List α}{i:Int}{v:α}(h:atI xs i=some v):∃ j,seqIndex? i xs.length=some j/\xs[j]? = some v/\j < xs.length /\ -(xs.length:Int)<=i/\i < xs.length:=by
 unfold atI at h
 cases e:ixN xs.length i with
 | none=>rw[e] at h;cases h
 | some j=>
  rw[e] at h
  obtain ⟨h1,h2,h3,h4⟩:=yL e
  exact ⟨j,h1,h,h2,h3,h4⟩
theorem gX{α:Type}{xs:List α}{j:Nat}{v:α}(h:xs[j]? = some v):atI xs (j:Int)=some v:=by
 have hj:j < xs.length:=(List.getElem?_eq_some_iff.mp h).1
 have e:ixN xs.length (j:Int)=some j:=by
  unfold ixN
  rw[if_pos (by omega),if_pos (by omega)];simp
 unfold atI;rw[e];exact h
theorem aDP{α:Type}(xs:List α)(v:α):atI (xs++[v]) (-1)=some v:=by
 have hl:(xs++[v]).length=xs.length+1:=by simp
 have e:ixN (xs++[v]).length (-1)=some xs.length:=by
  unfold ixN
  rw[hl,if_neg (by decide),if_pos (by omega)]
  congr 1
  omega
 unfold atI
 rw[e]
 show (xs++[v])[xs.length]? = some v
 simp
def yM(b:Expr):Prop:=∀ o i,subscripted b false o i=operate [o,i] (getItem o i)
def IxR(X:Cx)(r:R2):Prop:=
 ∀ (value slice:Expr) (pins:List (Addr×Obj)) (s:Shared) (σ:St) (H:Hp) (x y:V) (v u:Value) (Q:VK),Inv X pins σ H s->bH x v->bH y u->r x y H Q->
  subscripted slice false v u=operate [v,u] (getItem v u)->wpAny (model X.prog X.w) X.A (subscriptTail value slice v u) (EP X pins σ Q) X.xe s
def MtR(X:Cx)(id:String)(r:V->List V->Hp->VK->Prop):Prop:=
 ∀ (pins:List (Addr×Obj)) (s:Shared) (σ:St) (H:Hp) (x:V) (xs:List V) (v:Value) (us:List Value) (Q:VK),Inv X pins σ H s->bH x v->bG xs us->r x xs H Q->
  wpAny (model X.prog X.w) X.A (call (.builtin id) (v::us)) (EP X pins σ Q) X.xe s
section
variable{X:Cx}{a b:Expr}{ta tb:TE}{pos:Pos}
theorem IxR.or{r r':R2}(h:IxR X r)(h':IxR X r'):IxR X (fun x y H Q=>r x y H Q\/r' x y H Q):=by
 intro value slice pins s σ H x y v u Q I rx ry q hs
 rcases q with q|q
 · exact h value slice pins s σ H x y v u Q I rx ry q hs
 · exact h' value slice pins s σ H x y v u Q I rx ry q hs
theorem aFM{r:R2}(hr:IxR X r)(ha:PE X a ta)(hb:PE X b tb)(hs:yM b):PE X (.Subscript a b pos) (tOp r ta tb):=by
 intro pins s σ H Q I h
 exact Subscript_ (aDG ha hb I h fun v u s2 x y H2 I2 rx ry q=>hr a b pins s2 σ H2 x y v u Q I2 rx ry q (hs _ _))
def aIX(K:Frag):R2:=fun x y H Q=>∃ p xs i v,x=.ref p/\y=.int i/\SqL K H p xs/\atI xs i=some v/\Q v H
def aIY(K:Frag):R2:=fun x y H Q=>∃ p xs i v,x=.ref p/\y=.int i/\SqT K H p xs/\atI xs i=some v/\Q v H
def aIZ:R2:=fun x y H Q=>∃ z i c,x=.str z/\y=.int i/\z.length<=sizeLine/\atI z.cps.toList i=some c/\Q (.str ⟨#[c]⟩) H
theorem yN:IxR X (aIX X.K):=by
 intro value slice pins s σ H x y v u Q I rx ry h hs
 obtain ⟨p,xs,i,z,rfl,rfl,hq,he,q⟩:=h
 cases rx
 obtain ⟨t,rfl⟩:=ry
 obtain ⟨its,r,pl,hz⟩:=I.list hq
 obtain ⟨j,h1,h2,h3,h4,h5⟩:=sL he
 obtain ⟨w,ew,rw'⟩:=r.get h2
 have hl:=r.length
 have hn:=q9
 have fin:EP X pins σ Q w s:=⟨z,H,I,rw',q⟩
 by_cases h0:0<=i
 ·have hj:i.toNat=j:=by
   rw[seqIndex_of h0 h5] at h1
   exact Option.some.inj h1
  exact item_listR pl.isList h0 (by omega) (by rw[hj];simpa using ew) fin hs
 ·have hj:(i+(its.toArray.size:Int)).toNat=j:=by
   rw[seqIndex_neg (by omega) h4] at h1
   rw[List.size_toArray,<-hl]
   exact Option.some.inj h1
  exact subscriptTail_builtinR (x:=w) pl.isList.typeIs slot_list_getitem.lookup
   (wpAny_getItem_list_neg (Q:=fun r s'=>r=w/\EP X pins σ Q r s') pl.isList (by omega) (by rw[List.size_toArray]<;>omega) (by omega) (by rw[hj];simpa using ew) ⟨rfl,fin⟩) hs
theorem aBL:IxR X (aIY X.K):=by
 intro value slice pins s σ H x y v u Q I rx ry h hs
 obtain ⟨p,xs,i,z,rfl,rfl,hq,he,q⟩:=h
 cases rx
 obtain ⟨t,rfl⟩:=ry
 obtain ⟨its,r,pl,hz⟩:=I.tuple hq
 obtain ⟨j,h1,h2,h3,h4,h5⟩:=sL he
 obtain ⟨w,ew,rw'⟩:=r.get h2
 have hl:=r.length
 have hn:=q9
 have fin:EP X pins σ Q w s:=⟨z,H,I,rw',q⟩
 exact subscriptTail_builtinR (x:=w) pl.typeIs slot_tuple_getitem.lookup
  (getItem_tuple (j:=j) (Q:=fun r s'=>r=w/\EP X pins σ Q r s') pl (by omega) (by omega) (by rw[List.size_toArray,<-hl];exact h1) (by simpa using ew) ⟨rfl,fin⟩) hs
theorem aBM:IxR X aIZ:=by
 intro value slice pins s σ H x y v u Q I rx ry h hs
 obtain ⟨z,i,c,rfl,rfl,hz,he,q⟩:=h
 obtain ⟨t,rfl⟩:=rx
 obtain ⟨t',rfl⟩:=ry
 obtain ⟨j,h1,h2,h3,h4,h5⟩:=sL he
 have hl:z.cps.toList.length=z.length:=by simp[Str.length]
 rw[hl] at h1 h4 h5
 have hn:=q9
 exact tail_any (typeIs_str s z t) slot_str_getitem.lookup (getItem_str (c:=c) (by
  have e1:decide (i < -(2 ^ 63:Int))=false:=decide_eq_false (by omega)
  have e2:decide (i>=2 ^ 63)=false:=decide_eq_false (by omega)
  rw[e1,e2,Bool.or_false]) (by rw[h1];simpa using h2) ⟨.str ⟨#[c]⟩,H,I.tok _,⟨_,rfl⟩,q⟩) hs
def rIx(K:Frag):R2:=fun x y H Q=>aIX K x y H Q\/aIY K x y H Q\/aIZ x y H Q
theorem aI0:IxR X (rIx X.K):=yN.or (aBL.or aBM)
theorem Inv.lst{pins:List (Addr×Obj)}{σ:St}{H:Hp}{s:Shared}{p:Addr}{xs:List V}(I:Inv X pins σ H s)(h:H p=some (.lst xs)) :
  ∃ (its:List Value) (n:Nat),bG xs its/\s.heap.get? p=some {cls:=.type "list",data:=.seq its.toArray n}/\xs.length<=sizeLine:=by
 obtain ⟨z,its,n,r,e⟩:=I.hok p _ h
 exact ⟨its,n,r,e,z⟩
theorem wE(lo hi:Option Int)(n:Nat):(sliceBounds lo hi none n).1=((HT.sIx n 0 lo:Nat):Int)/\(sliceBounds lo hi none n).2.1=((HT.sIx n n hi:Nat):Int)/\(sliceBounds lo hi none n).2.2=1:=by
 refine ⟨?_,?_,rfl⟩
 ·cases lo with
  | none=>simp[sliceBounds,HT.sIx]
  | some i=>
   simp only[sliceBounds,HT.sIx,Option.getD_none,show (1:Int) > 0 by decide,if_true]
   by_cases h:i < 0
   · simp only [h, if_true] <;> omega
   · simp only [h, if_false] <;> omega
 ·cases hi with
  | none=>simp[sliceBounds,HT.sIx]
  | some i=>
   simp only[sliceBounds,HT.sIx,Option.getD_none,show (1:Int) > 0 by decide,if_true]
   by_cases h:i < 0
   · simp only [h, if_true] <;> omega
   · simp only [h, if_false] <;> omega
theorem uP(its:List Value)(lo hi:Option Int):slicePick its.toArray lo hi none=((its.drop (HT.sIx its.length 0 lo)).take (HT.sIx its.length its.length hi - HT.sIx its.length 0 lo)).toArray:=by
 obtain ⟨h1,h2,h3⟩:=wE lo hi its.toArray.size
 unfold slicePick
 rw[h1,h2,h3]
 simp only[sliceRange_one,pick_run,List.size_toArray]<;>rfl
def aMB(K:Frag):V->Option Int->Option Int->Hp->VK->Prop:=fun x lo hi H Q=>∃ a xs,x=.ref a/\SqL K H a xs/\∀ p,H p=none->Q (.ref p) (upd H p (.lst (oK xs lo hi)))
theorem aGO:SlR X (aMB X.K):=by
 intro pins s σ H x v vl vu lo hi sl Q I rx hs pl pu h
 obtain ⟨a,xs,rfl,hx,q⟩:=h
 cases rx
 obtain ⟨its,r,ht,hz⟩:=I.list hx
 have hlen:=r.length
 refine ⟨"list",_,slot_list_getitem.lookup,ht.isList.typeIs,?_⟩
 refine wpAny_getItem_list_slice ht.isList hs pl pu .none (by simp) ?_ (by rw[List.size_toArray]<;>omega)
 rw[uP,<-hlen]
 refine ⟨.ref s.heap.objs.size,_,I.laid (t':=s.toks) (o:=.lst (oK xs lo hi)) (fun b ob q=>Heap.get?_push_of_some _ q) (Nat.le_refl _) ?_,rfl,q _ (I.hok.fresh (Nat.le_refl _))⟩
 exact ⟨Nat.le_trans (qD xs lo hi) hz,_,0,(r.drop (HT.sIx xs.length 0 lo)).take (HT.sIx xs.length xs.length hi - HT.sIx xs.length 0 lo),Heap.get?_push_size _ rfl⟩
theorem gA:iU X (.type "tuple") (fun xs H Q=>∃ p ys,xs=[.ref p]/\((SqL X.K H p ys/\∀ l,H l=none->Q (.ref l) (upd H l (.tup ys)))\/(SqT X.K H p ys/\Q (.ref p) H))):=by
 intro pins s σ H xs us Q I r h
 obtain ⟨p,ys,rfl,h⟩:=h
 obtain ⟨u,rfl,rx⟩:=mZ r
 cases rx
 rcases h with ⟨hq,q⟩|⟨hq,q⟩
 ·obtain ⟨its,r',pl,hz⟩:=I.list hq
  have hlen:=r'.length
  refine call_tuple_list pl.isList (fun h' kp=>?_) (by simp only[List.size_toArray]<;>omega)
  have I1:Inv X pins σ H {s with heap:=h'}:=I.kept (t':=s.toks) kp
  have I2:Inv X pins σ (upd H h'.objs.size (.tup ys)) {s with heap:=h'.push {cls:=.type "tuple",data:=.seq its.toArray}}:=
   I1.laid (t':=s.toks) (fun b o e=>Heap.get?_push_of_some _ e) (Nat.le_refl _) (show cR X.prog X.w _ _ _ (.tup ys) from ⟨hz,its,r',IsTup.new _ _⟩)
  exact ⟨.ref h'.objs.size,_,I2,rfl,q _ (I1.hok.fresh (Nat.le_refl _))⟩
 ·obtain ⟨its,r',pl,hz⟩:=I.tuple hq
  exact call_tuple_same pl ⟨.ref p,H,I,rfl,q⟩
def tyV(K:Frag)(T:String)(x:V)(H:Hp):Prop:=match x with
 | .str _=>T="str"
 | .int _=>T="int"
 | .ref p=>(T="list"/\∃ xs,SqL K H p xs)\/(T="tuple"/\∃ o,K.lookup p=some o/\o.cls=.type "tuple"/\o.dict=none) \/
  (T="dict"/\((∃ kvs,H p=some (.dK kvs))\/∃ kvs,H p=some (.dT kvs)))\/(T="set"/\∃ S n,H p=some (.set S n))
 | _=>False
theorem aI1{pins:List (Addr×Obj)}{σ:St}{H:Hp}{s:Shared}{T:String}{x:V}{v:Value}(I:Inv X pins σ H s)(r:bH x v)(ty:tyV X.K T x H) :
  s.TypeIs v T/\∀ a,v=.ref a->∃ ob,s.heap.get? a=some ob/\ob.dict=none:=by
 cases x with
 | str z=>
  obtain ⟨t,rfl⟩:=r
  cases (show T="str" from ty)
  exact ⟨typeIs_str s z t,fun _ e=>nomatch e⟩
 | int i=>
  obtain ⟨t,rfl⟩:=r
  cases (show T="int" from ty)
  exact ⟨typeIs_int s i t,fun _ e=>nomatch e⟩
 | ref p=>
  cases r
  rcases ty with ⟨rfl,xs,hq⟩|⟨rfl,o,hk,hc,hd⟩|⟨rfl,hk⟩|⟨rfl,S,n,hk⟩
  ·obtain ⟨its,_,pl,_⟩:=I.list hq
   refine ⟨pl.isList.typeIs,fun a e=>?_⟩
   cases e
   obtain ⟨o,n,e,c,hd,_⟩:=pl
   exact ⟨o,e,hd⟩
  ·refine ⟨⟨o,I.kIn p o hk,hc⟩,fun a e=>?_⟩
   cases e
   exact ⟨o,I.kIn _ o hk,hd⟩
  ·have z:∃ o,s.heap.get? p=some o/\o.ExactDict:=by
    rcases hk with ⟨kvs,hk⟩|⟨kvs,hk⟩
    ·obtain ⟨_,_,_,_,o,_,_,e,ex,_⟩:=I.hok p _ hk
     exact ⟨o,e,ex⟩
    ·obtain ⟨_,_,_,_,o,_,_,e,ex,_⟩:=I.hok p _ hk
     exact ⟨o,e,ex⟩
   obtain ⟨o,e,ex⟩:=z
   refine ⟨⟨o,e,ex.1⟩,fun a e2=>?_⟩
   cases e2
   exact ⟨o,e,ex.2.1⟩
  ·obtain ⟨o,_,_,_,e,ex,_⟩:=I.hok p _ hk
   refine ⟨⟨o,e,ex.1⟩,fun a e2=>?_⟩
   cases e2
   exact ⟨o,e,ex.2.1⟩
 | _=>exact False.elim ty
def tBM(K:Frag)(T:String)(r:V->List V->Hp->VK->Prop)(to:TE)(t:TA):TE:=fun σ H Q=>to σ H fun x H1=>tyV K T x H1/\t σ H1 fun xs H2=>r x xs H2 Q
variable{o e:Expr}{es:List Expr}{to:TE}{t:TA}{name:Str}{apos cpos:Pos}{T id:String}{r:V->List V->Hp->VK->Prop}
theorem iV(pa:PlainAttrs T)(slot:Slot T name id)(hty:typeOf (.builtin id)=pure (.type "method_descriptor"))(hm:MtR X id r)(ho:PE X o to)(ha:PA X (e::es) t)
  (hbase:attributeBase o name X.env (eval o X.env)=eval o X.env:=by rfl)
  (hfew:((backTo cpos (starEach (e::es) X.env)).all (fun x=>!x.1) && (backToKw cpos (keywordEach [] X.env)).all (fun x=>x.1.isSome)
   && decide ((e::es).length+([]:List Keyword).length+(if ([]:List Keyword).isEmpty then 0 else 1) < 30))=true:=by rfl)
  (hline:(apos.endLine == cpos.line)=true:=by rfl) (hs:starEach (e::es) X.env=(false,eval e X.env)::starEach es X.env:=by rfl) (hplain:(backTo cpos (starEach es X.env)).any (·.1)=false:=by rfl) :
  PE X (.Call (.Attribute o name apos) (e::es) [] cpos) (tBM X.K T r to t):=by
 intro pins s σ H Q I h
 refine wpAny_Call_method_late hbase hfew hline rfl (thn (ho pins s σ H _ I h) fun v s1 zz0=>?_)
 obtain ⟨x,H1,I1,r1,ty,q1⟩:=zz0
 obtain ⟨h1,h2⟩:=aI1 I1 r1 ty
 refine ⟨T,id,pa,slot,hty,h1,h2,?_⟩
 have hA:=ha cpos pins s1 σ H1 _ I1 q1
 rw[hs] at hA ⊢
 refine Calls.callWith_builtin (by show (false || (backTo cpos (starEach es X.env)).any (·.1))=false;rw[hplain]<;>rfl) (Calls.evalArgs_plain ?_)
 exact thn hA fun us s2 ⟨vs,H2,I2,r2,q2⟩=>hm pins s2 σ H2 x vs v us Q I2 r1 r2 q2
end
end L2
namespace L2
open PySem PySem.Spec PyProof.Rows
def MtM(X:Cx)(id:String)(r:V->List V->Hp->VK->Prop):Prop:=
 ∀ (pins:List (Addr×Obj)) (s:Shared) (σ:St) (H:Hp) (x:V) (xs:List V) (v:Value) (us:List Value) (Q:VK),Inv X pins σ H s->bH x v->bG xs us->r x xs H Q->
  wpAny (model X.prog X.w) X.A (call (.builtin id) (v::us)) (EP X pins σ Q) X.xe s
theorem bG.one:∀ {x:V} {us:List Value},bG [x] us->∃ u,us=[u]/\bH x u
 | _,_,.cons r .nil=>⟨_,rfl,r⟩
theorem bG.reverse{xs:List V}{us:List Value}(h:bG xs us):bG xs.reverse us.reverse:=by
 induction h with
 | nil=>exact .nil
 | cons r t ih=>rw[List.reverse_cons,List.reverse_cons];exact bG.append ih (.cons r .nil)
section
variable{X:Cx}{pins:List (Addr×Obj)}{σ:St}{H:Hp}{s:Shared}{l b:Addr}{xs ys zs:List V}
theorem Inv.lset{its its':List Value}{n:Nat}{f:Array Value->Array Value}{t':Nat}(I:Inv X pins σ H s)(hH:H l=some (.lst xs))
  (e:s.heap.get? l=some {cls:=.type "list",data:=.seq its.toArray n}) (hf:f its.toArray=its'.toArray) (hv:bG ys its') (hz:ys.length<=sizeLine) :
  Inv X pins σ (upd H l (.lst ys)) {s with heap:=s.heap.update l (Obj.mapSeq f),toks:=t'}:=by
 have q:=PySem.IsL.update e f
 rw[hf] at q
 refine I.write (x:=l) (e:=l) (by rw[hH];exact trivial) (.inl rfl) (fun b' u hb hu=>(Heap.get?_update_other s.heap (Obj.mapSeq f) (Ne.symm hb)).trans hu) ⟨_,q⟩ ?_
 exact ⟨hz,its',_,hv,q⟩
theorem Inv.lstM(I:Inv X pins σ H s)(hH:H l=some (.lst xs)):xs.length<=sizeLine/\∃ (its:List Value) (n:Nat),bG xs its/\xs.length=its.length/\s.heap.get? l=some {cls:=.type "list",data:=.seq its.toArray n}:=by
 obtain ⟨z,its,n,r,e⟩:=I.hok l _ hH
 exact ⟨z,its,n,r,r.length,e⟩
end
section
variable{X:Cx}
def sM:V->List V->Hp->VK->Prop:=fun x vs H Q=>∃ l xs y,x=.ref l/\vs=[y]/\H l=some (.lst xs)/\xs.length < sizeLine/\Q .non (upd H l (.lst (xs++[y])))
theorem gL:MtM X "list.append" sM:=by
 intro pins s σ H x vs v us Q I rx rv h
 obtain ⟨l,xs,y,rfl,rfl,hH,hz,q⟩:=h
 cases rx
 obtain ⟨u,rfl,ru⟩:=rv.one
 obtain ⟨z,its,n,r,hl,e⟩:=I.lstM hH
 refine call_meets F.slot_list_append ⟨_,e,rfl⟩ F.entry_list_append (F.args_list_append_2 _ _) (PySem.list_append l its.toArray n u (by rw[List.size_toArray];omega)) ⟨e,?_⟩
 refine ⟨.non,_,I.lset (its':=its++[u]) hH e (by simp) (r.append (.cons ru .nil)) ?_,rfl,q⟩
 rw[List.length_append,List.length_singleton]
 omega
end
end L2
namespace Att
open PySem PySem.W PySem.Calls PyProof.Rows
theorem rB{P:Params}{h:Heap}:∀ (ns:List Int) (vs:List Value),WellAll P h vs (ns.map WData.int)->IntsAre vs ns:=by
 intro ns
 induction ns with
 | nil=>
  intro vs w
  rw[List.map_nil] at w
  cases w
  exact .nil
 | cons n ns ih=>
  intro vs w
  rw[List.map_cons] at w
  cases w with
  | cons a b=>
   cases a
   exact .cons _ _ (ih _ b)
theorem aBN{l:OpenLaw}{n:Nat}(hn:l.most=some n){P:Params}{h:Heap}{args:List WData}{vals:List Value}
  (hpre:l.row.toRowW.claim.pre args=true) (hwl:WellAll P h vals args) :
  ∃ a vs ns,vals=[Value.ref a]/\args=[WData.list (ns.map WData.int)]/\h.get? a=some {cls:=.type "list",data:=.seq vs.toArray}/\IntsAre vs ns/\ns.length<=n:=by
 have hsh:WShape.hasAll [] args [.list .int]=true:=(pre_splitW hpre).1
 have hc:l.pre.holds [] {args:=args}=true:=(pre_splitW hpre).2
 obtain ⟨d,r,rfl,h1,h2⟩:=hasAllW_cons hsh
 obtain rfl:=hasAllW_nil h2
 obtain ⟨xs,rfl,h3⟩:=hasW_list h1
 obtain ⟨ns,rfl⟩:=items_int h3
 have hlen:ns.length<=n:=by
  unfold OpenLaw.pre at hc
  have h4:(WTm.not (.lt (.lit (.int (n:Int))) (.len (.arg 0)))).holds [] {args:=[.list (ns.map .int)]}=true:=by
   have h4:=(holds_andW hc).1
   rw[hn] at h4
   exact h4
  have h5:=condW_of h4 (w_not (w_lt w_lit (w_len_list (w_arg rfl))))
  rw[List.length_map] at h5
  refine Nat.le_of_not_lt fun q=>?_
  have q':(n:Int) < ((ns.length:Nat):Int):=by omega
  first
   | (rw[decide_eq_true q'] at h5;exact absurd h5 (by decide))
   | (simp at h5;omega)
 cases hwl with
 | cons w1 w2=>
  cases w2
  cases w1 with
  | list ho hall=>exact ⟨_,_,ns,rfl,rfl,ho,rB ns _ hall,hlen⟩
theorem aBO(l:OpenLaw)(args:List WData):l.row.toRowW.claim.post args (.bool true) args=true:=
 postW_of (r:=l.row.toRowW) (X:=(true == true))
  (show WShape.has [] (.bool true) .bool=true by first|rfl|decide|simp[WShape.has,WShape.arms,WShape.armsAll])
  (show (WTm.eq .res (.lit (.bool true))).value [] {args:=args,res:=some (.bool true),after:=args}=some (.bool (true == true)) from w_eq_bool (w_res rfl) w_lit) rfl
theorem attach_call{l:OpenLaw}{n:Nat}{q:Program}{loose:List Str}{XP:(Str->Option Value)->Heap->Prop}{YP:World->Heap->Prop}{d:DefRec}
  (hn:l.most=some n) (hdf:d.params.defaults=[])
  (call:∀ (w:World) (s₀ s₁:Shared) (mg mb:Str->Option Value) (fa:Addr) (o:Obj) (pm cd doc:Value) (a:Addr) (vs:List Value) (ns:List Int),
   Ground q loose [] XP w s₀ mg mb s₁.heap->YP w s₁.heap->
   s₁.heap.get? fa=some o->o.data=.func (docDef d.name d.params d.body d.scope pm cd doc)->s₁.heap.CodeRec cd d.name->mg d.name=some (.ref fa)->
   s₁.heap.get? a=some {cls:=.type "list",data:=.seq vs.toArray}->IntsAre vs ns->ns.length<=n->s₁.gens = #[]->
   codeAny (model l.prog w) callerA (.call (.ref fa) ⟨[.ref a],[]⟩) (fun r s'=>r=.ok (.ret (.bool true))/\OldK s₁.heap s'.heap/\s'.os=s₁.os/\AllBare s'.gens) s₁) :
  WalkO q loose XP YP l.row.toRowW d [] (fun f vs=>PySem.call f vs):=by
 intro w s₀ s₁ mg mb G Y fa o pm cd doc dV kV ho hd hcd hD hmg hg args vals as hpre hlay hrd hwl hlo
 obtain rfl:dV=.none:=Dflts.none hD hdf
 obtain rfl:kV=.none:=Dflts.noKw hD
 obtain ⟨a,vs,ns,rfl,rfl,hobj,hints,hlen⟩:=aBN hn hpre hwl
 refine enter_call (codeAny_mono (call w s₀ s₁ mg mb fa o pm cd doc a vs ns G Y ho (fd_plain hd) hcd hmg hobj hints hlen hg) fun r s' hq=>?_)
 obtain ⟨rfl,h2,h3,h4⟩:=hq
 exact ⟨.inl ⟨.bool true,.bool true,[],rfl,fun _=>rfl,.bool true,aBO l _,fun _=>⟨List.Pairwise.nil,fun _ hm=>(nomatch hm)⟩⟩,h2,h3,h4⟩
section
variable{prog:Program}{w:World}{A:Around}{E:Value->Shared->Prop}{s:Shared}{K:Frag}
noncomputable def aNB(h:Heap)(L d:Addr):List (Addr×Obj):=(List.range h.objs.size).filterMap fun a=>if a=L\/a=d then none else (h.get? a).map fun o=>(a,o)
end
end Att
namespace L2
open PySem PySem.Spec PyProof.Rows
theorem t6:∀ {vs:List Value} {ns:List Int},IntsAre vs ns->bG (ns.map V.int) vs
 | _,_,.nil=>.nil
 | _,_,.cons n t h=>.cons ⟨t,rfl⟩ (t6 h)
def aDQ(H:Hp):Prop:=∀ b,H b=none\/∃ o xs,H b=some (.frz o (.lst xs))
theorem aDR{P:Program}{w:World}{K:Frag}{mg mb:Str->Option Value}{CX:CXT}{k:Nat}{fa a:Addr}{fd:FuncData}{x:Str}{sp:Sp}{s₁:Shared}{vs:List Value}{ns:List Int}
  (KX:K.In s₁.heap) (hns:s₁.heap.Ns mainGlobals mg) (hb:s₁.heap.Ns builtinsNs mb) (hbb:∀ x:Str,x≠"__name__"->mb x=bootBuiltins x) (hlim:s₁.heap.NoLimit) (hg:s₁.gens = #[])
  (ha:s₁.heap.get? a=some {cls:=.type "list",data:=.seq vs.toArray}) (hi:IntsAre vs ns) (hl:ns.length<=sizeLine) (hr:Room k callerA)
  (F:∀ base:Heap,K.In base->base.Ns mainGlobals mg->FnOk P w K mg base CX k fa fd [x] sp) (hbind:∀ (s:Shared) (u:Value),BindsTo s fd ⟨[u],[]⟩ [(x,u)])
  (hsp:∀ H:Hp,aDQ H->SqL K H a (ns.map V.int)->sp [.ref a] H (fun v _=>v=.bl true) fun _ _ _=>False)
  (hCX:∀ H e s',CX [] H s₁ (fun _ _ _=>False) e s'->False) :
  codeAny (model P w) callerA (.call (.ref fa) ⟨[.ref a],[]⟩) (fun r s'=>r=.ok (.ret (.bool true))/\OldK s₁.heap s'.heap/\s'.os=s₁.os/\AllBare s'.gens) s₁:=by
 have rv:=t6 hi
 have lenV:=hi.length
 have core:∀ H:Hp,aDQ H->SqL K H a (ns.map V.int)->HOk P w H s₁.heap->(∀ b,H b≠none->b=a)->(H a≠none->K.lookup a=none)->
   codeAny (model P w) callerA (.call (.ref fa) ⟨[.ref a],[]⟩) (fun r s'=>r=.ok (.ret (.bool true))/\OldK s₁.heap s'.heap/\s'.os=s₁.os/\AllBare s'.gens) s₁:=by
  intro H hO hS hok hA hK
  have base_of:∀ {b:Addr} {o:Obj},s₁.heap.get? b=some o->H b=none->(mY s₁.heap H).get? b=some o:=fun e n=>aDB e n
  have noA:∀ {b:Addr} {o:Obj} {es:Array DictEntry} {ep:Nat},s₁.heap.get? b=some o->o.data=.dict es ep->H b=none:=fun {b o es ep} e d=>by
   cases q:H b with
   | none=>rfl
   | some u=>
    have e':b=a:=hA b (by rw[q];simp)
    subst e'
    rw[ha] at e;cases e
    have d':Data.seq vs.toArray _=Data.dict es ep:=d
    cases d'
  have nsK:∀ {b:Addr} {m:Str->Option Value},s₁.heap.Ns b m->(mY s₁.heap H).Ns b m:=fun {b m} ⟨o,es,ep,e,d,r⟩=>⟨o,es,ep,base_of e (noA e d),d,r⟩
  have hKb:K.In (mY s₁.heap H):=fun b o e=>base_of (KX b o e) (by
   cases q:H b with
   | none=>rfl
   | some u=>
    have e':b=a:=hA b (by rw[q];simp)
    subst e'
    rw[hK (by rw[q];simp)] at e;cases e)
  have hM:Mod K mg (mY s₁.heap H):=⟨hKb,nsK hns,⟨mb,nsK hb,hbb⟩,let ⟨mc,h1,h2⟩:=hlim;⟨mc,nsK h1,h2⟩⟩
  have e0:Env0 P w K mg (mY s₁.heap H) callerA [] s₁ H:=⟨rfl,hM,fun b o e=>aGA e,Nat.le_of_eq (aBA _ _),trivial,fun b hb=>absurd (show b∈([]:List Addr) from hb) (by simp),hok,.of_eq hg⟩
  refine codeAny_mono ((F _ hKb (nsK hns)).run callerA [] s₁ H ⟨[.ref a],[]⟩ [.ref a] [.ref a] _ _ hr e0 (hbind s₁ (.ref a)) (.cons rfl .nil) (hsp H hO hS)) fun r s' h=>?_
  cases r with
  | error e=>exact (hCX H e s' h).elim
  | ok fl=>
   cases fl with
   | next=>exact False.elim h
   | brk=>exact False.elim h
   | cont=>exact False.elim h
   | ret u=>
    obtain ⟨v,H',os,bare,un,hok',r',q⟩:=h
    have q':v=.bl true:=q
    subst q'
    obtain rfl:u=Value.bool true:=r'
    refine ⟨rfl,OldK.of_keep fun b o e=>?_,os,bare⟩
    cases q:H b with
    | none=>exact un.keep b o e q (by intro z;exact absurd (show b∈([]:List Addr) from z) (by simp)) (by simp)
    | some u=>
     rcases hO b with z|⟨ob,xs,z⟩
     ·rw[q] at z;cases z
     ·have z2:=un.frzs b ob _ z
      obtain ⟨e1,_⟩:=hok b _ z
      obtain ⟨e2,_⟩:=hok' b _ z2
      rw[e] at e1;cases e1
      exact e2
 cases hk:K.lookup a with
 | some o=>
  have e:=KX a o hk
  rw[ha] at e
  cases e
  refine core (fun _=>none) (fun _=>.inl rfl) (.inr ⟨_,vs.toArray,_,hk,rfl,rfl,rfl,by rw[List.size_toArray,lenV];exact hl,by simpa using rv⟩) (fun b u z=>by have z':(none:Option HO)=some u:=z;cases z') (fun b z=>absurd rfl z) fun z=>absurd rfl z
 | none=>
  refine core (fun b=>if b=a then some (.frz {cls:=.type "list",data:=.seq vs.toArray} (.lst (ns.map V.int))) else none) (fun b=>?_) (.inl (.inr ⟨{cls:=.type "list",data:=.seq vs.toArray},if_pos rfl⟩)) (fun b u z=>?_) (fun b z=>?_) fun _=>hk
  ·by_cases hb:b=a
   ·exact .inr ⟨_,_,if_pos hb⟩
   ·exact .inl (if_neg hb)
  ·by_cases hb:b=a
   ·have z':=(if_pos hb).symm.trans z
    cases z'
    subst hb
    exact ⟨ha,by rw[List.length_map];exact hl,vs,_,rv,ha⟩
   ·have z':=(if_neg hb).symm.trans z
    cases z'
  ·by_cases hb:b=a
   ·exact hb
   ·exact absurd (if_neg hb) z
end L2
namespace L2
open PySem PySem.Spec PyProof.Rows
abbrev KOf{K:Frag}{h:Heap}(_:K.In h):Frag:=K
theorem walk_of{l:PySem.W.OpenLaw}{n k:Nat}{q:Program}{loose:List Str}{XP:(Str->Option Value)->Heap->Prop}{YP:World->Heap->Prop}{d:DefRec}{K:Params->Frag}{CX:World->CXT}{sp:World->Sp}{x:Str}
  (hn:l.most=some n) (hn2:n<=sizeLine) (hdf:d.params.defaults=[]) (hr:Room k callerA)
  (hY:∀ (w:World) (h:Heap),YP w h->(K w.params).In h)
  (F:∀ (w:World) (mg:Str->Option Value) (fa:Addr) (h:Heap),(K w.params).In h->h.Ns mainGlobals mg->mg d.name=some (.ref fa)->
   ∃ fd:FuncData,(∀ (s:Shared) (u:Value),BindsTo s fd ⟨[u],[]⟩ [(x,u)]) /\
    ∀ base:Heap,(K w.params).In base->base.Ns mainGlobals mg->FnOk l.prog w (K w.params) mg base (CX w) k fa fd [x] (sp w))
  (hsp:∀ (w:World) (H:Hp) (a:Addr) (ns:List Int),ns.length<=n->aDQ H->SqL (K w.params) H a (ns.map V.int)->sp w [.ref a] H (fun v _=>v=.bl true) fun _ _ _=>False)
  (hCX:∀ (w:World) (H:Hp) (s:Shared) (e:Value) (s':Shared),CX w [] H s (fun _ _ _=>False) e s'->False) :
  PySem.W.WalkO q loose XP YP l.row.toRowW d [] (fun f vs=>PySem.call f vs):=by
 refine Att.attach_call hn hdf fun w s₀ s₁ mg mb fa o pm cd doc a vs ns G Y ho hd hcd hmg hobj hints hlen hg=>?_
 have KX:=hY w _ Y
 obtain ⟨fd,hb,hF⟩:=F w mg fa _ KX G.T.g hmg
 exact aDR KX G.T.g G.T.b G.T.builtins G.T.nolimit hg hobj hints (Nat.le_trans hlen hn2) hr hF hb (fun H hO hS=>hsp w H a ns hlen hO hS) fun H e s'=>hCX w H s₁ e s'
end L2
namespace L2
open PySem PySem.Spec PyProof.Rows
noncomputable def aH(s:Stmt)(j:Nat):Stmt:=match s with
 | .ClassDef _ _ _ body _ _ _ _ _ _ _=>body.getD j (.Pass ⟨0,0,0,0⟩)
 | _=>.Pass ⟨0,0,0,0⟩
noncomputable def cW(s:Stmt):Arguments:=match s with
 | .FunctionDef _ a _ _ _ _ _ _ _ _=>a
 | _=>{posonlyargs:=[],args:=[],vararg:=none,kwonlyargs:=[],kw_defaults:=[],kwarg:=none,defaults:=[]}
noncomputable def b5(s:Stmt):List Stmt:=match s with
 | .FunctionDef _ _ b _ _ _ _ _ _ _=>b
 | _=>[]
noncomputable def aL(s:Stmt):Scope:=match s with
 | .FunctionDef _ _ _ _ _ _ sc _ _ _=>sc
 | _=>{kind:=.function,names:=[],isGenerator:=false,isCoroutine:=false}
abbrev CX0:CXT:=fun _ _ _ _ _ _=>False
abbrev E0:XK:=fun _ _ _=>False
theorem vI{X:Cx}:iC CX0 X E0:=fun _ _ _ _ _ _ _ h=>h.elim
structure Fun(K:Frag)(x qual:Str)(st:Stmt)(f:Addr)(fd:FuncData):Prop where
 ex:∃ (oc:Value) (od:Option Addr) (kV doc pm:Value) (an:Option Addr) (cdv ct:Value) (osl:Array (Option Value)),
  fd=PySem.W.fnOf x qual (cW st) (b5 st) (aL st) .none kV doc pm an cdv ct/\K.lookup f=some ⟨oc,od,.func fd,osl⟩/\PySem.W.codeIn K cdv qual=true
 kp:PySem.W.keepIn K (.ref f)=true
section
variable{P:Program}{w:World}{K:Frag}{mg:Str->Option Value}{base:Heap}
theorem Fun.ok{x qual:Str}{st:Stmt}{f:Addr}{fd:FuncData}{N ps:List Str}{k:Nat}{sp:Sp}(F:Fun K x qual st f fd)(S:FnScope N ps (aL st))(len:∀ vs H Q E,sp vs H Q E->vs.length=ps.length)
  (hbody:∀ (cdv:Value) (A:Around) (outer:List Env) (s:Shared) (H:Hp) (vs:List V) (Q:VK) (E:XK),Room k (A.deeper (envOfC qual (aL st) s.heap.objs.size f cdv))->sp vs H Q E->
   ∃ t,PSs (iH CX0 P w K mg base N qual (aL st) f cdv A outer s H E).nox (b5 st) t/\t {nx:=fun _ H'=>Q .non H',rt:=Q} (start N vs) H):FnOk P w K mg base CX0 (k+1) f fd ps sp:=by
 obtain ⟨oc,od,kV,doc,pm,an,cdv,ct,osl,rfl,lk,hcd⟩:=F.ex
 refine aFL lk hcd S len fun A outer s H vs Q E hr hsp=>?_
 obtain ⟨t,h,q⟩:=hbody cdv A outer s H vs Q E hr hsp
 exact ⟨t,h.nox,q⟩
theorem Fun.binds{x qual:Str}{st:Stmt}{f:Addr}{fd:FuncData}{ps:List Str}(F:Fun K x qual st f fd)
  (h:∀ (kV doc pm:Value) (an:Option Addr) (cdv ct:Value) (us:List Value),us.length=ps.length->bindArgs (PySem.W.fnOf x qual (cW st) (b5 st) (aL st) .none kV doc pm an cdv ct) ⟨us,[]⟩=pure (ps.zip us)):cS K fd ps []:=by
 obtain ⟨oc,od,kV,doc,pm,an,cdv,ct,osl,rfl,lk,hcd⟩:=F.ex
 exact .all (h kV doc pm an cdv ct)
theorem eP{x qual:Str}{st:Stmt}{f:Addr}{oc:Value}{od an:Option Addr}{osl:Array (Option Value)}{kV doc pm cdv ct:Value}(l:K.lookup f=some ⟨oc,od,.func (PySem.W.fnOf x qual (cW st) (b5 st) (aL st) .none kV doc pm an cdv ct),osl⟩)
 (c:PySem.W.codeIn K cdv qual=true) (k:PySem.W.keepIn K (.ref f)=true):Fun K x qual st f (PySem.W.fnOf x qual (cW st) (b5 st) (aL st) .none kV doc pm an cdv ct):=⟨⟨oc,od,kV,doc,pm,an,cdv,ct,osl,rfl,l,c⟩,k⟩
end
section
variable{X:Cx}
theorem pv(i:Nat){x:Str}{pos:Pos}(hN:X.N[i]? = some x:=by rfl)(hv:Vis X.env.scope x:=by first|exact Or.inl rfl|exact Or.inr (Or.inl rfl)|exact Or.inr (Or.inr rfl))(hd:(x == ("__debug__":Str))=false:=by decide)
 (hcd:(x == ("__classdict__":Str))=false:=by decide):PE X (.Name x pos) (j9 i):=aH8 hN hv hd hcd
end
theorem oM{A B:Prop}(h:B):if false=true then A else B:=by
 rw[if_neg Bool.false_ne_true]
 exact h
theorem oN{A B:Prop}(h:A):if true=true then A else B:=by
 rw[if_pos rfl]
 exact h
def aO(H H':Hp):Prop:=∀ b o,H b=some o->H' b=some o
theorem aO.trans{H H1 H2:Hp}(a:aO H H1)(b:aO H1 H2):aO H H2:=fun c o h=>b c o (a c o h)
theorem aO.free{H H':Hp}(e:aO H H'){l:Addr}(h:H' l=Option.none):H l=Option.none:=by
 cases q:H l with
 | none=>rfl
 | some o=>
  rw[e l o q] at h
  cases h
theorem aO.seq{K:Frag}{H H':Hp}{a:Addr}{xs:List V}(e:aO H H')(h:SqL K H a xs):SqL K H' a xs:=by
 rcases h with (h|⟨o,h⟩)|h
 · exact .inl (.inl (e _ _ h))
 · exact .inl (.inr ⟨o, e _ _ h⟩)
 · exact .inr h
end L2
namespace L2
open PySem PySem.Spec PyProof.Rows
theorem z8{env:Env}:∀ (names:List (Str×NameKind)) (acc:List (Str×Addr)),(∀ x∈names,x.2=.free->∃ c,env.cells.lookup x.1=some c)->
  (∀ x c,acc.lookup x=some c->env.cells.lookup x=some c)->
  ∃ cl,(forIn names acc fun x r=>(if (x.2 == NameKind.free)=true then (do let a <-cellOf env x.1;pure (ForInStep.yield ((x.1,a)::r))) else pure (ForInStep.yield r)):Sem (List (Str×Addr)))=pure cl /\
   (∀ x c,cl.lookup x=some c->env.cells.lookup x=some c)/\(∀ x∈names,x.2=.free->∃ c,cl.lookup x.1=some c)/\∀ x c,acc.lookup x=some c->∃ c',cl.lookup x=some c':=by
 intro names
 induction names with
 | nil=>intro acc _ h;exact ⟨acc,rfl,h,fun x hx=>absurd hx (by simp),fun x c e=>⟨c,e⟩⟩
 | cons x r ih=>
  intro acc hf h
  obtain ⟨n,k⟩:=x
  by_cases hk:k=.free
  ·subst hk
   obtain ⟨c,hc⟩:=hf (n,.free) List.mem_cons_self rfl
   have hc:env.cells.lookup n=some c:=hc
   obtain ⟨cl,e1,e2,e3,e4⟩:=ih ((n,c)::acc) (fun y hy=>hf y (List.mem_cons_of_mem _ hy)) (fun y d e=>by
    rw[List.lookup_cons] at e
    cases q:y == n with
    | true=>rw[q] at e;cases e;have:=eq_of_beq q;subst this;exact hc
    | false=>rw[q] at e;exact h y d e)
   refine ⟨cl,?_,e2,fun y hy hyf=>?_,fun y d e=>?_⟩
   ·rw[List.forIn_cons]
    simp only[beq_self_eq_true,if_true]
    unfold cellOf
    simp only[hc,pure_bind]
    exact e1
   ·rcases List.mem_cons.mp hy with z|z
    ·subst z
     exact e4 n c (by rw[List.lookup_cons];simp)
    ·exact e3 y z hyf
   ·by_cases q:y=n
    ·subst q;exact e4 y c (by rw[List.lookup_cons];simp)
    ·exact e4 y d (by rw[List.lookup_cons,beq_false_of_ne q];exact e)
  ·obtain ⟨cl,e1,e2,e3,e4⟩:=ih acc (fun y hy=>hf y (List.mem_cons_of_mem _ hy)) h
   refine ⟨cl,?_,e2,fun y hy hyf=>?_,e4⟩
   ·rw[List.forIn_cons]
    have:(k == NameKind.free)=false:=by simpa using hk
    simp only[this,Bool.false_eq_true,if_false,pure_bind]
    exact e1
   ·rcases List.mem_cons.mp hy with z|z
    ·subst z;exact absurd hyf hk
    ·exact e3 y z hyf
theorem rC{env:Env}{scope:Scope}(hf:∀ x∈scope.names,x.2=.free->∃ c,env.cells.lookup x.1=some c) :
  ∃ cl,closureFor scope env=pure cl/\(∀ x c,cl.lookup x=some c->env.cells.lookup x=some c)/\∀ x∈scope.names,x.2=.free->∃ c,cl.lookup x.1=some c:=by
 obtain ⟨cl,e1,e2,e3,_⟩:=z8 scope.names [] hf (fun x c e=>by simp at e)
 refine ⟨cl,?_,e2,e3⟩
 unfold closureFor
 first
  | exact e1
  | (rw[<-e1];rfl)
  | (simp only[bind_pure];exact e1)
theorem fM{env:Env}:∀ {names:List (Str×NameKind)} {x:Str} {k:NameKind},
  (names.map fun (n,k)=>if (k == NameKind.free && env.scope.kind == .function && env.kindOf n == some .cell) then (n,NameKind.cell) else (n,k)).lookup x=some k->
  k=.cell\/k=.free->(∀ y∈names,y.2≠.cell)->(x,NameKind.free)∈names
 | [],_,_,h,_,_=>by simp at h
 | (n,k0)::r,x,k,h,hk,hc=>by
  have ih:=@fM env r x k
  rw[List.map_cons] at h
  dsimp only at h
  by_cases hx:x=n
  ·subst hx
   by_cases hcond:(k0 == NameKind.free && env.scope.kind == .function && env.kindOf x == some .cell)=true
   ·have:k0=.free:=by
     simp only[Bool.and_eq_true] at hcond
     exact eq_of_beq hcond.1.1
    subst this
    exact List.mem_cons_self
   ·rw[if_neg hcond,List.lookup_cons] at h
    simp only[beq_self_eq_true] at h
    cases h
    rcases hk with rfl|rfl
    ·exact absurd rfl (hc _ List.mem_cons_self)
    ·exact List.mem_cons_self
  ·have hb:(x == n)=false:=beq_false_of_ne hx
   refine List.mem_cons_of_mem _ (ih ?_ hk fun y hy=>hc y (List.mem_cons_of_mem _ hy))
   split at h
   ·rw[List.lookup_cons,hb] at h;exact h
   ·rw[List.lookup_cons,hb] at h;exact h
noncomputable def eQ(X:Cx)(N:List Str)(scope:Scope)(cl:List (Str×Addr))(C:Addr)(s:Shared)(H:Hp)(fp:List Addr):Cx where
 prog:=X.prog
 w:=X.w
 K:=X.K
 mg:=X.mg
 base:=X.base
 A:=X.A
 N:=N
 s₀:=s
 H₀:=H
 env:=compEnvC scope cl C X.env
 outer:=X.stack
 stack:=X.stack
 ex:=fp
 calm:=X.calm
 fn:=fun _=>false
 pn:=[]
 xe:=fun _ _=>False
inductive Caps(X:Cx)(scope:Scope):List Str->List (Option Nat)->Prop
 | nil:Caps X scope [] []
 | own {x:Str} {N:List Str} {js:List (Option Nat)} (t:Caps X scope N js):Caps X scope (x::N) (none::js)
 | cap {x:Str} {j:Nat} {N:List Str} {js:List (Option Nat)} (h1:X.N[j]? = some x) (h2:X.env.kindOf x=some .cell\/X.env.kindOf x=some .free)
  (h3:(relabel scope X.env).names.lookup x=some .cell\/(relabel scope X.env).names.lookup x=some .free) (t:Caps X scope N js):Caps X scope (x::N) (some j::js)
theorem Caps.len{X:Cx}{scope:Scope}{N:List Str}{js:List (Option Nat)}(c:Caps X scope N js):js.length=N.length:=by
 induction c with
 | nil=>rfl
 | own _ ih=>simp[ih]
 | cap _ _ _ _ ih=>simp[ih]
theorem Caps.get{X:Cx}{scope:Scope}{N:List Str}{js:List (Option Nat)}(c:Caps X scope N js):∀ {i j:Nat} {x:Str},js[i]? = some (some j)->N[i]? = some x->
  X.N[j]? = some x/\(X.env.kindOf x=some .cell\/X.env.kindOf x=some .free)/\((relabel scope X.env).names.lookup x=some .cell\/(relabel scope X.env).names.lookup x=some .free):=by
 induction c with
 | nil=>intro i j x h;simp at h
 | own _ ih=>
  intro i j x h1 h2
  cases i with
  | zero=>simp at h1
  | succ i=>exact ih (by simpa using h1) (by simpa using h2)
 | cap a b d _ ih=>
  intro i j x h1 h2
  cases i with
  | zero=>
   simp at h1 h2
   subst h1 h2
   exact ⟨a,b,d⟩
  | succ i=>exact ih (by simpa using h1) (by simpa using h2)
noncomputable def jH(js:List (Option Nat))(σ:St):St:=js.map fun o=>o.bind fun j=>(σ[j]?).join
def dS(σ σ':St):Prop:=σ'.length=σ.length/\∀ (i:Nat) v,σ[i]? = some (some v)->σ'[i]? = some (some v)
theorem dS.refl(σ:St):dS σ σ:=⟨rfl,fun _ _ h=>h⟩
theorem dS.set{σ:St}{i:Nat}{v:Option V}(h:σ[i]? = some none):dS σ (σ.set i v):=by
 refine ⟨List.length_set,fun j u e=>?_⟩
 by_cases q:i=j
 · subst q; rw [h] at e; cases e
 · rw [List.getElem?_set_ne q]; exact e
theorem dS.trans{a b c:St}(h:dS a b)(k:dS b c):dS a c:=⟨k.1.trans h.1,fun i v e=>k.2 i v (h.2 i v e)⟩
section
variable{X:Cx}
def PIf(X:Cx)(ifs:List Expr)(t:TT):Prop:=
 ∀ (pins:List (Addr×Obj)) (s:Shared) (σ:St) (H:Hp) (Q:Bool->Hp->Prop),Inv X pins σ H s->t σ H Q->
  wpAny (model X.prog X.w) X.A (forIn ifs true fun c r=>if r=true then do let ok <-isTrue c X.env (eval c X.env);pure (ForInStep.yield ok) else pure (ForInStep.yield r)) (TP X pins σ Q) X.xe s
def aI2:TT:=fun _ H Q=>Q true H
theorem jI:PIf X [] aI2:=by
 intro pins s σ H Q I h
 show wpAny _ _ (pure true) _ _ s
 exact wpAny_pure ⟨H,I,h⟩
theorem aGP{c:Expr}{t:TT}(h:PT X c t):PIf X [c] t:=by
 intro pins s σ H Q I hq
 rw[List.forIn_cons]
 simp only[if_true]
 refine wpAny_bind (wpAny_bind (thn (h pins s σ H Q I hq) fun b s1 q=>wpAny_pure ?_))
 show wpAny _ _ (pure b) _ _ s1
 exact wpAny_pure q
end
def sN(X:Cx)(N:List Str)(scope:Scope)(js:List (Option Nat))(tg elt:Expr)(ifs:List Expr)(σ:St)(x:V)(H:Hp)(R:Option V->Hp->Prop):Prop:=
 ∀ (cl:List (Str×Addr)) (C:Addr) (s:Shared) (H0:Hp) (fp:List Addr),∃ (g:TG) (tt:TT) (te:TE),PG (eQ X N scope cl C s H0 fp) tg g/\PIf (eQ X N scope cl C s H0 fp) ifs tt/\PE (eQ X N scope cl C s H0 fp) elt te /\
  ∀ σ0,dS (jH js σ) σ0->g x σ0 H fun σ2 H2=>dS (jH js σ) σ2/\tt σ2 H2 fun b H3=>if b=true then te σ2 H3 fun y H4=>R (some y) H4 else R none H3
def compK(X:Cx)(N:List Str)(scope:Scope)(js:List (Option Nat))(tg elt:Expr)(ifs:List Expr)(σ:St)(Q:VK)(J:It)(H1:Hp):Prop:=∃ (n:Nat) (W:Nat->List V->Hp->Prop),n<=sizeLine/\W 0 [] H1 /\
 ∀ i ys H,W i ys H->ys.length<=i/\((J.stop i H/\∀ p,H p=none->Q (.ref p) (upd H p (.lst ys)))\/(J.go i H/\i < n/\∃ R:Option V->Hp->Prop,(∀ y H2,R (some y) H2->W (i+1) (ys++[y]) H2)/\(∀ H2,R none H2->W (i+1) ys H2) /\
  ∀ x H',J.yld i H x H'->sN X N scope js tg elt ifs σ x H' R))
def pL(X:Cx)(N:List Str)(scope:Scope)(js:List (Option Nat))(tg elt:Expr)(ifs:List Expr)(wi:TI):TE:=fun σ H Q=>wi σ H (compK X N scope js tg elt ifs σ Q)
end L2
namespace L2
open PySem PySem.Spec PyProof.Rows
section
variable{prog:Program}{w:World}{A:Around}{R:Result->Shared->Prop}{s:Shared}
theorem wF{elt target iter:Expr}{ifs:List Expr}{scope:Scope}{pos:Pos}{it acc:Value}{env:Env}(I:Nat->Shared->Prop)
  (turn:∀ n s,I n s->wpAny (model prog w) A (pyNext it) (fun r s1=>match r with
   | none=>R (.ok .next) s1
   | some v=>wpAny (model prog w) A (letOwnedTupleGo target it v) (fun _ s1'=>wpAny (model prog w) A (assign target env v) (fun _ s2=>
    wpAny (model prog w) A (forIn ifs true fun c r=>if r=true then do let ok <-isTrue c env (eval c env);pure (ForInStep.yield ok) else pure (ForInStep.yield r)) (fun ok s3=>
     if ok=true then wpAny (model prog w) A (eval elt env) (fun x s4=>
      wpAny (model prog w) A (call (.builtin "list.append") [acc,x]) (fun _ s5=>∃ m,m < n/\I m s5) (fun _ _=>False) s4) (fun _ _=>False) s3
     else ∃ m,m < n/\I m s3) (fun _ _=>False) s2) (fun _ _=>False) s1') (fun _ _=>False) s1) (fun _ _=>False) s)
  (n:Nat) (h:I n s) :
  codeAny (model prog w) A (.compLoop (.ListComp elt [⟨target,iter,ifs,0⟩] scope pos) 0 it acc env) R s:=by
 refine codeAny_loop rfl I (fun n s hI=>?_) n h
 show wpAny _ A ((compTurn (.ListComp elt [⟨target,iter,ifs,0⟩] scope pos) 0 it acc env).onRaise (fun x=>do noteFrame x env;theTreesLotGoes x)) _ _ s
 refine wpAny_noted ?_
 rw[compTurn_list]
 have nr:∀ {α:Type} {t:Sem α} {Q:α->Shared->Prop} {E':Value->Shared->Prop} {s:Shared},wpAny (model prog w) A t Q (fun _ _=>False) s->wpAny (model prog w) A t Q E' s:=fun h=>wpAny_mono h (fun _ _ q=>q) fun _ _ f=>f.elim
 refine wpAny_bind (wpAny_standAt (wpAny_bind (wpAny_mono (turn n s hI) (fun r s₁ h₁=>?_) fun _ _ h'=>h'.elim)))
 cases r with
 | none=>exact wpAny_pure h₁
 | some v=>
  refine wpAny_bind (wpAny_mono h₁ (fun _ s1' h1'=>?_) fun _ _ f=>f.elim)
  refine wpAny_bind (wpAny_mono h1' (fun _ s₂ h₂=>wpAny_bind (wpAny_mono h₂ (fun ok s₃ h₃=>?_) fun _ _ h'=>h'.elim)) fun _ _ h'=>h'.elim)
  cases ok with
  | false=>exact wpAny_pure ⟨rfl,h₃⟩
  | true=>
   exact wpAny_bind (wpAny_bind (wpAny_mono h₃ (fun x s₄ h₄=>wpAny_bind (wpAny_mono h₄ (fun _ s₅ h₅=>wpAny_pure (wpAny_pure ⟨rfl,h₅⟩)) fun _ _ h'=>h'.elim)) fun _ _ h'=>h'.elim))
end
theorem HOk.track{P:Program}{w:World}{H:Hp}{h:Heap}{a:Addr}{o:HO}(x:HOk P w H h)(hn:H a=none)(new:cR P w (upd H a o) h a o):HOk P w (upd H a o) h:=fun b u e=>by
 by_cases hb:b=a
 ·subst hb;rw[aW] at e;cases e;exact new
 ·rw[aK hb] at e
  exact (x b u e).stay (fun c v _ q=>q) (fun c q=>by rw[aK (cN q hn)];exact q) (fun c xs q=>by rw[aK (cN q hn)];exact q) fun c xs q=>by rw[aK (cN q hn)];exact q
section
variable{X:Cx}{pins:List (Addr×Obj)}{σ:St}
structure CompEnd(X:Cx)(pins:List (Addr×Obj))(σ:St)(D C:Addr)(ys:List V)(H':Hp)(s':Shared):Prop where
 inv:Inv X pins σ (upd H' D (.lst ys)) s'
 ns:∃ m,s'.heap.Ns C m
 fp:hU X pins (upd H' D (.lst ys)) C
 nD:H' D=none
theorem CompEnd.gone{D C:Addr}{ys:List V}{H H':Hp}{s':Shared}{h'':Heap}{σ':St}(I:Inv X pins σ' H s')(fp:hU X pins H C)(hs:Heap.SameBut C s'.heap h''):Inv X pins σ' H {s' with heap:=h''}:=
 I.turned (it:=C) (t':=s'.toks) (fun b o hb e=>(hs.2 b hb).trans e) fp.1 fp.2.1 fp.2.2.2.1 fp.2.2.2.2.1 fp.2.2.2.2.2
theorem wG{prog:Program}{w:World}{A:Around}{E:Value->Shared->Prop}{s:Shared}{l:Addr}{items:Array Value}{nn:Nat}{x:Value}{Q:Value->Shared->Prop}(e:s.heap.get? l=some {cls:=.type "list",dict:=none,data:=.seq items nn})(hz:items.size<=sizeLine)
  (hQ:∀ nn' h',h'.get? l=some {cls:=.type "list",dict:=none,data:=.seq (items.push x) nn'}->Heap.SameBut l s.heap h'->Q .none {s with heap:=h'}) :
  wpAny (model prog w) A (call (.builtin "list.append") [.ref l,x]) Q E s:=by
 refine call_meets F.slot_list_append ⟨_,e,rfl⟩ F.entry_list_append (F.args_list_append_2 _ _) (PySem.list_append l items nn x (by omega)) ⟨e,?_⟩
 exact hQ _ _ (Heap.get?_update_self _ e rfl) (Heap.SameBut.update ..)
theorem rD{N:List Str}{js:List (Option Nat)}{scope:Scope}{tg elt iter:Expr}{ifs:List Expr}{cl:List (Str×Addr)}{pos:Pos}{it:Addr}{fp:List Addr}{tn:Nat->Heap->Prop}{J:It}{s2:Shared}{H2:Hp}{E:Value->Shared->Prop}
  {RR:Value->Addr->Result->Shared->Prop} {Q:VK} (hc:X.calm=true) (caps:Caps X scope N js) (hkind:scope.kind=.function) (hcell:∀ y∈scope.names,y.2≠.cell)
  (hcl1:∀ x c,cl.lookup x=some c->X.env.cells.lookup x=some c) (hcl2:∀ x∈scope.names,x.2=.free->∃ c,cl.lookup x.1=some c)
  (I:Inv X pins σ H2 s2) (T:Turn X.prog X.w X.K tg J fp it tn) (st2:tn 0 s2.heap) (f2:∀ b∈fp,hU X pins H2 b) (n:Nat) (W:Nat->List V->Hp->Prop) (hn:n<=sizeLine) (w0:W 0 [] H2)
  (turn:∀ i ys H,W i ys H->ys.length<=i/\((J.stop i H/\∀ p,H p=none->Q (.ref p) (upd H p (.lst ys)))\/(J.go i H/\i < n/\∃ R:Option V->Hp->Prop,(∀ y H2,R (some y) H2->W (i+1) (ys++[y]) H2)/\(∀ H2,R none H2->W (i+1) ys H2) /\
   ∀ x H',J.yld i H x H'->sN X N scope js tg elt ifs σ x H' R)))
  (hRR:∀ D C ys H' s',CompEnd X pins σ D C ys H' s'->Q (.ref D) (upd H' D (.lst ys))->RR (.ref D) C (.ok .next) s') :
  wpAny (model X.prog X.w) X.A (newList []) (fun acc s3=>wpAny (model X.prog X.w) X.A (newFunctionEnv scope X.env.globals cl [] X.env.qual none .none (some X.env)) (fun cenv s4=>
   codeAny (model X.prog X.w) X.A (.compStart (.ListComp elt [⟨tg,iter,ifs,0⟩] scope pos) 0 (.ref it) acc {cenv with scope:=relabel scope X.env}) (RR acc cenv.locals) s4) E s3) E s2:=by
 refine wpAny_newObj_type (wpAny_newFunctionEnv hcell (by intro y hy;simp at hy) (fun h₁ hns₁ hsb₁=>?_) hkind)
 dsimp only at hns₁ hsb₁ ⊢
 generalize hHh:s2.heap.push {cls:=.type "list",dict:=none,data:=.seq ([]:List Value).toArray}=Hh at hns₁ hsb₁ ⊢
 have hC:Hh.objs.size=s2.heap.objs.size+1:=by rw[<-hHh,Heap.size_push]
 have hDC:s2.heap.objs.size≠Hh.objs.size:=by rw[hC];exact Nat.ne_of_lt (Nat.lt_succ_self _)
 have hCle:s2.heap.objs.size<=Hh.objs.size:=by rw[hC];exact Nat.le_succ _
 have old:∀ b o,s2.heap.get? b=some o->h₁.get? b=some o:=fun b o e=>hsb₁.extBut b o (by rw[hC];exact Nat.ne_of_lt (Nat.lt_succ_of_lt (Heap.lt_size e))) (Heap.get?_push_of_some _ (hHh▸Heap.get?_push_of_some _ e))
 have haccO:h₁.get? s2.heap.objs.size=some {cls:=.type "list",dict:=none,data:=.seq ([]:List Value).toArray}:=hsb₁.extBut _ _ hDC (Heap.get?_push_of_some _ (hHh▸Heap.get?_push_size _ rfl))
 have st1:tn 0 h₁:=T.keep _ _ _ st2 fun b hb o e=>old b o e
 have fplt:∀ b∈fp,b < s2.heap.objs.size:=fun b hb=>by
  obtain ⟨o,e,_⟩:=T.obj _ _ st2 b hb
  exact Heap.lt_size e
 have fsIn:∀ b∈frs X.stack,b < s2.heap.objs.size:=fun b hb=>by
  rcases List.mem_cons.mp (I.stkSub b hb) with z|z
  ·rw[z];exact I.lt
  ·refine Nat.lt_of_not_le fun hle=>I.nofs hle z
 have fpC:∀ b∈fp,b≠Hh.objs.size:=fun b hb z=>Nat.lt_irrefl _ (Nat.lt_of_lt_of_le (fplt b hb) (z▸hCle))
 generalize hD:s2.heap.objs.size=D at *
 generalize hCc:Hh.objs.size=C at *
 let X':=eQ X N scope cl C s2 H2 fp
 have ok':X'.Ok:=by
  refine ⟨I.ok.mod,hkind,I.ok.glob,I.ok.blt,by show s2.heap.objs.size<=C;rw[hD];exact hCle,fun x y c e1 e2=>I.ok.inj x y c (hcl1 x c e1) (hcl1 y c e2),fun x hx=>?_,fun x c z=>absurd (show false=true from z) Bool.false_ne_true,I.ok.hd,I.ok.frames,.inl rfl,fun b hb=>?_,
   I.bs,Nat.le_trans I.ok.bsz I.sz,fun b o e hb=>?_,fun b hb z=>?_,I.stack,I.stkFree⟩
  ·have hm:(x,NameKind.free)∈scope.names:=by
    rcases hx with z|z
    ·exact fM (env:=X.env) z (.inl rfl) hcell
    ·exact fM (env:=X.env) z (.inr rfl) hcell
   exact hcl2 _ hm rfl
  ·exact ⟨fpC b hb,fun x c e=>(f2 b hb).2.2.2.2.1 x c (hcl1 x c e)⟩
  ·rcases (f2 b hb).2.2.2.1 with z|z
   ·exact I.ok.noex b o e z
   ·exact absurd (Heap.lt_size (I.ok.bs b o e).1) (Nat.not_lt.mpr z)
  ·rcases List.mem_cons.mp (I.stkSub b z) with q|q
   ·exact (f2 b hb).2.1 q
   ·exact (f2 b hb).2.2.1 q
 have hσl:(jH js σ).length=N.length:=by unfold jH;rw[List.length_map,caps.len]
 have freeC:H2 C=none:=I.hok.fresh (by rw[hD];exact hCle)
 have freeD:H2 D=none:=I.hok.fresh (by rw[hD];exact Nat.le_refl _)
 have DnotFs:D∉frs X.stack:=fun z=>Nat.lt_irrefl _ (fsIn D z)
 have DnotFp:D∉fp:=fun z=>Nat.lt_irrefl _ (fplt D z)
 have I0:∀ tk,Inv X' [] (jH js σ) H2 {s2 with heap:=h₁,toks:=tk}:=fun tk=>by
  refine ⟨ok',rfl,I.bare,Un.kept old,⟨_,hns₁,fun i x v e1 e2 e3=>?_⟩,fun x c e=>?_,freeC,fun x c e=>I.freeC x c (hcl1 x c e),fun p hp=>absurd hp (by show ¬ p∈([]++[]:List (Addr×Obj));simp),I.hok.kept old,hσl⟩
  ·unfold jH at e2
   rw[List.getElem?_map] at e2
   cases q:js[i]? with
   | none=>rw[q] at e2;cases e2
   | some o=>
    rw[q] at e2
    cases o with
    | none=>cases e2
    | some j=>
     have e2':(σ[j]?).join=some v:=Option.some.inj e2
     obtain ⟨c1,c2,c3⟩:=caps.get q e1
     have e4:σ[j]? = some (some v):=by
      cases z:σ[j]? with
      | none=>rw[z] at e2';cases e2'
      | some u=>rw[z] at e2';have:u=some v:=e2';rw[this]
     obtain ⟨m,hm,hl⟩:=I.loc
     have vis:Vis X.env.scope x:=by
      rcases c2 with z|z
      · exact .inr (.inl z)
      · exact .inr (.inr z)
     obtain ⟨u,r,l⟩:=hl j x v c1 e4 vis
     refine ⟨u,r,.inr ⟨c3,?_⟩⟩
     have lc:∃ c,X.env.cells.lookup x=some c/\s2.heap.IsCell c (some u):=by
      rcases l with ⟨k,_⟩|⟨_,z⟩
      · rcases c2 with z | z <;> (rw [k] at z; cases z)
      · exact z
     obtain ⟨c,e5,o,ho,hd⟩:=lc
     have hm2:(x,NameKind.free)∈scope.names:=by
      rcases c3 with z|z
      · exact fM (env := X.env) z (.inl rfl) hcell
      · exact fM (env := X.env) z (.inr rfl) hcell
     obtain ⟨c',e6⟩:=hcl2 _ hm2 rfl
     have e7:=hcl1 _ _ e6
     rw[e5] at e7;cases e7
     exact ⟨c,e6,o,old c o ho,hd⟩
  ·obtain ⟨v,o,ho,hd⟩:=I.cell x c (hcl1 x c e)
   exact ⟨v,o,old c o ho,hd⟩
 have fpok:∀ {H':Hp} {pl:List (Addr×Obj)},(∀ b∈fp,H' b=none)->(∀ b∈fp,∀ p∈pl,p.1≠b)->∀ b∈fp,hU X' pl H' b:=fun {H' pl} hn hpl b hb=>by
  refine ⟨hn b hb,fpC b hb,ok'.exfs b hb,.inl hb,fun x c e=>(f2 b hb).2.2.2.2.1 x c (hcl1 x c e),fun p hp=>hpl b hb p ?_⟩
  have hp':p∈[]++pl:=hp
  simpa using hp'
 let LI:Nat->Shared->Prop:=fun k s'=>∃ i ys its nn σ' H',k=n+1 - i/\i<=n/\W i ys H'/\tn i s'.heap/\(∀ b∈fp,H' b=none)/\bG ys its/\dS (jH js σ) σ' /\
  Inv X' [(D,{cls:=.type "list",dict:=none,data:=.seq its.toArray nn})] σ' H' s'
 have loop:∀ tk,codeAny (model X.prog X.w) X.A (.compLoop (.ListComp elt [⟨tg,iter,ifs,0⟩] scope pos) 0 (.ref it) (.ref D) (compEnvC scope cl C X.env)) (RR (.ref D) C) {s2 with heap:=h₁,toks:=tk}:=by
  intro tk
  refine wF LI ?_ (n+1) ⟨0,[],[],0,jH js σ,H2,rfl,Nat.zero_le _,w0,st1,fun b hb=>(f2 b hb).1,.nil,dS.refl _,?_⟩
  ·rintro k s3 ⟨i,ys,its,nn,σ3,H3,rfl,hin,w3,st3,fr3,r3,ks,I3⟩
   obtain ⟨hyl,tr⟩:=turn i ys H3 w3
   have fpk:=fpok (pl:=[(D,{cls:=.type "list",dict:=none,data:=.seq its.toArray nn})]) fr3 (fun b hb p hp z=>by
    rw[List.mem_singleton.mp hp] at z
    exact DnotFp ((show D=b from z)▸hb))
   rcases tr with ⟨stop,q⟩|⟨go,hlt,RW,hR1,hR2,step⟩
   ·refine thn (T.done X' rfl rfl rfl hc i _ s3 σ3 H3 _ I3 fpk st3 stop) fun r s4 zz0=>?_
    obtain ⟨hr,I4⟩:=zz0
    subst hr
    show RR (.ref D) C (.ok .next) s4
    obtain ⟨pe,pn,p1,p2,p3⟩:=I4.pin (D,{cls:=.type "list",dict:=none,data:=.seq its.toArray nn}) (by show _∈[]++_;simp)
    refine hRR D C ys H3 s4 ?_ (q D pn)
    have hok4:HOk X.prog X.w (upd H3 D (.lst ys)) s4.heap:=HOk.track I4.hok pn ⟨Nat.le_trans hyl (Nat.le_trans hin hn),its,nn,r3,pe⟩
    have ltD:∀ b u,H2 b=some u->b≠D:=fun b u e z=>by rw[z,freeD] at e;cases e
    have un4:Un (frs X.stack) fp H2 (upd H3 D (.lst ys)) s2.heap s4.heap:=by
     have ub:=I4.base
     refine ⟨ub.keep,ub.slot,fun b o e nn' hx=>?_,ub.there,fun b xs e=>?_,fun b o u e=>?_,fun b ps e=>?_⟩
     ·rw[aK (fun z=>by have:=Heap.lt_size e;rw[hD,z] at this;exact Nat.lt_irrefl _ this)]
      exact ub.free b o e nn' hx
     ·rw[aK (ltD b _ e)];exact ub.tups b xs e
     ·rw[aK (ltD b _ e)];exact ub.frzs b o u e
     ·rw[aK (ltD b _ e)];exact ub.tbls b ps e
    refine ⟨I.call' I4.os un4 hok4 I4.bare fun b hb=>⟨(f2 b hb).2.2.2.1,(f2 b hb).2.1,(f2 b hb).2.2.2.2.1,(f2 b hb).2.2.2.2.2⟩,?_,?_,pn⟩
    ·obtain ⟨m,hm,_⟩:=I4.loc
     exact ⟨m,hm⟩
    ·refine I.fpOk (by rw[hD];exact hCle) ?_
     rw[aK (Ne.symm hDC)]
     exact I4.free
   ·refine thn (T.item X' rfl rfl rfl hc i _ s3 σ3 H3 _ I3 fpk st3 go) fun r s4 zz0=>?_
    obtain ⟨u,hr,h4⟩:=zz0
    subst hr
    show wpAny _ _ (letOwnedTupleGo tg (.ref it) u) _ _ s4
    refine thn h4 fun _ s5 zz0=>?_
    obtain ⟨x,H5,I5,r5,y5,st5,fr5⟩:=zz0
    obtain ⟨g,tt,te,hg,ht,he,hq⟩:=step x H5 y5 cl C s2 H2 fp
    have fpk5:=fpok (pl:=[(D,{cls:=.type "list",dict:=none,data:=.seq its.toArray nn})]) fr5 (fun b hb p hp z=>by
     rw[List.mem_singleton.mp hp] at z
     exact DnotFp ((show D=b from z)▸hb))
    have I5':=I5.pinned fpk5 (T.obj _ _ st5)
    refine thn (hg _ s5 σ3 H5 x u _ I5' r5 (hq σ3 ks)) fun _ s6 zz0=>?_
    obtain ⟨σ6,H6,I6,ks6,q6⟩:=zz0
    refine thn (ht _ s6 σ6 H6 _ I6 q6) fun b s7 zz0=>?_
    obtain ⟨H7,I7,q7⟩:=zz0
    have stK:∀ {s':Shared} {H':Hp} {σ':St},Inv X' ([(D,{cls:=.type "list",dict:=none,data:=.seq its.toArray nn})]++oH fp s5.heap) σ' H' s'->tn (i+1) s'.heap/\(∀ b∈fp,H' b=none):=fun {s' H' σ'} I'=>by
     refine ⟨T.keep _ _ _ st5 fun b hb o e=>(I'.pin (b,o) (List.mem_append_right _ (List.mem_append_right _ (kF hb e)))).1,fun b hb=>?_⟩
     obtain ⟨o,e,d⟩:=T.obj _ _ st5 b hb
     exact (I'.pin (b,o) (List.mem_append_right _ (List.mem_append_right _ (kF hb e)))).2.1
    cases b with
    | false=>
     rw[if_neg Bool.false_ne_true] at q7 ⊢
     obtain ⟨a1,a2⟩:=stK I7
     exact ⟨n+1 - (i+1),by omega,i+1,ys,its,nn,σ6,H7,rfl,hlt,hR2 _ q7,a1,a2,r3,ks6,I7.unpinned⟩
    | true=>
     rw[if_pos rfl] at q7 ⊢
     refine thn (he _ s7 σ6 H7 _ I7 q7) fun yv s8 zz0=>?_
     obtain ⟨y,H8,I8,r8,q8⟩:=zz0
     obtain ⟨a1,a2⟩:=stK I8
     have I8u:=I8.unpinned
     obtain ⟨pe,pn,p1,p2,p3⟩:=I8u.pin (D,{cls:=.type "list",dict:=none,data:=.seq its.toArray nn}) (by show _∈[]++_;simp)
     have hl8:s8.heap.IsList D its.toArray:=PySem.IsL.isList pe
     have isz:its.length<=sizeLine:=by rw[<-r3.length];exact Nat.le_trans hyl (Nat.le_trans hin hn)
     refine wG pe (by simpa using isz) fun nn' h9 e9 hs9=>?_
     have I9:Inv X' [] σ6 H8 {s8 with heap:=h9,toks:=s8.toks}:=by
      refine Inv.turned (pins:=[]) (it:=D) (t':=s8.toks) (I8u.pins_of (pins':=[]) fun p hp=>absurd hp (by simp)) (fun b o hb e=>(hs9.2 b hb).trans e) pn hDC (.inr (by show s2.heap.objs.size<=D;rw[hD];exact Nat.le_refl _)) (fun x c e z=>?_) fun p hp=>absurd hp (by show ¬ p∈([]++[]:List (Addr×Obj));simp)
      obtain ⟨v,o,ho,hd⟩:=I.cell x c (hcl1 x c e)
      have:=Heap.lt_size ho
      rw[hD,z] at this
      exact Nat.lt_irrefl _ this
     refine ⟨n+1 - (i+1),by omega,i+1,ys++[y],its++[yv],nn',σ6,H8,rfl,hlt,hR1 _ _ q8,?_,a2,bG.append r3 (.cons r8 .nil),ks6,?_⟩
     ·exact T.keep _ _ _ a1 fun b hb o e=>(hs9.2 b (fun z=>DnotFp (z▸hb))).trans e
     ·refine I9.pins_of fun p hp=>?_
      obtain rfl:=List.mem_singleton.mp hp
      exact ⟨by simpa using e9,pn,p1,p2,by simp⟩
  ·refine (I0 tk).pins_of fun p hp=>?_
   obtain rfl:=List.mem_singleton.mp hp
   exact ⟨haccO,freeD,hDC,DnotFs,by simp⟩
 exact codeAny_compStart_list (loop _) (T.self X.A 0 _ _ _ st1 (loop _))
noncomputable def eE(names:List (Str×NameKind))(outer:Str->Option NameKind):Bool:=
 names.all (fun y=>y.2 != .cell) && names.all (fun y=>y.2 != .local || names.lookup y.1 == some .local) && names.all (fun y=>y.2 != .free || outer y.1 == some .cell || outer y.1 == some .free)
theorem eE.cell{names:List (Str×NameKind)}{outer:Str->Option NameKind}(h:eE names outer=true):∀ y∈names,y.2≠.cell:=fun y hy=>by
 unfold eE at h
 simp only[Bool.and_eq_true,List.all_eq_true] at h
 simpa using h.1.1 y hy
theorem eE.names{names:List (Str×NameKind)}{outer:Str->Option NameKind}(h:eE names outer=true):∀ y∈names,y.2=.local->names.lookup y.1=some .local:=fun y hy e=>by
 unfold eE at h
 simp only[Bool.and_eq_true,List.all_eq_true] at h
 have:=h.1.2 y hy
 rw[e] at this
 simpa using this
theorem eE.free{names:List (Str×NameKind)}{outer:Str->Option NameKind}(h:eE names outer=true):∀ y∈names,y.2=.free->outer y.1=some .cell\/outer y.1=some .free:=fun y hy e=>by
 unfold eE at h
 simp only[Bool.and_eq_true,List.all_eq_true] at h
 have:=h.2 y hy
 rw[e] at this
 simpa using this
theorem sO{N:List Str}{js:List (Option Nat)}{scope:Scope}{tg elt iter:Expr}{ifs:List Expr}{pos:Pos}{wi:TI}(hc:X.calm=true)(caps:Caps X scope N js)(hok:eE scope.names X.env.kindOf=true)
  (hi:PI X tg iter wi) (hkind:scope.kind=.function:=by rfl) (hs:∀ x,foldedSetIterable iter X.env x=pure x:=by intro _;rfl) :
  PE X (.ListComp elt [⟨tg,iter,ifs,0⟩] scope pos) (pL X N scope js tg elt ifs wi):=by
 intro pins s σ H Q I h
 obtain ⟨cl,e1,e2,e3⟩:=rC (env:=X.env) (scope:=scope) fun x hx hf=>I.ok.has _ (eE.free hok x hx hf)
 rw[eval_ListComp]
 refine wpAny_comprehension_free (use:=none) rfl hs e1 hkind (eE.names hok) (thn (hi pins s σ H _ I h) fun v s1 h1=>thn h1 fun itv s2 h2=>?_)
 obtain ⟨it,fp,tn,J,H2,rfl,I2,T,st2,f2,n,W,hn,w0,turn⟩:=h2
 refine rD (RR:=fun acc C=>compPost (model X.prog X.w) X.A X.xe none (EP X pins σ Q) acc C) (Q:=Q) hc caps hkind (eE.cell hok) e2 e3 I2 T st2 f2 n W hn w0 turn ?_
 intro D C ys H' s' ce q
 obtain ⟨m,hm⟩:=ce.ns
 exact ⟨m,hm,fun h' hs'=>⟨.ref D,_,CompEnd.gone (D:=D) (ys:=ys) (H':=H') ce.inv ce.fp hs',rfl,q⟩⟩
theorem m4{i:Nat}{x:Str}{N:List Str}{js:List (Option Nat)}{scope:Scope}{tg elt iter:Expr}{ifs:List Expr}{pos pos' spos:Pos}{wi:TI}(hN:X.N.Nodup)(hi':X.N[i]? = some x)(hx:Loc X.env.scope x)
  (hsw:swapsWith (.ListComp elt [⟨tg,iter,ifs,0⟩] scope pos) (some (.Name x pos')) spos.line X.env=pure true) (hc:X.calm=true) (caps:Caps X scope N js) (hok:eE scope.names X.env.kindOf=true)
  (hi:PI X tg iter wi) (hkind:scope.kind=.function:=by rfl) (hf:X.fn x=true\/X.env.scope.names.lookup x=some .local:=by exact .inl rfl) (hs:∀ x,foldedSetIterable iter X.env x=pure x:=by intro _;rfl) :
  PS X (.Assign [.Name x pos'] (.ListComp elt [⟨tg,iter,ifs,0⟩] scope pos) spos) (l3 (pL X N scope js tg elt ifs wi) (jW i)):=by
 intro pins s σ H D I h
 obtain ⟨cl,e1,e2,e3⟩:=rC (env:=X.env) (scope:=scope) fun x hx hf=>I.ok.has _ (eE.free hok x hx hf)
 rw[exec_Assign_Name_used _ _ _ _ hsw]
 refine wpAny_bind (wpAny_standAt (wpAny_bind ?_))
 show wpAny _ X.A (do let _ <-comprehension (.ListComp elt [⟨tg,iter,ifs,0⟩] scope pos) scope X.env _ (newList []) false (eval iter X.env) (some (assign (.Name x pos') X.env))) _ _ s
 refine wpAny_bind (wpAny_mono (wpAny_comprehension_free (use:=some (assign (.Name x pos') X.env)) (Q:=fun _ s'=>SP X pins D .next s') rfl hs e1 hkind (eE.names hok)
  (thn (hi pins s σ H _ I h) fun v s1 h1=>thn h1 fun itv s2 h2=>?_)) (fun _ s' hq=>wpAny_pure (wpAny_pure hq)) fun _ _ e=>e)
 obtain ⟨it,fp,tn,J,H2,rfl,I2,T,st2,f2,n,W,hn,w0,turn⟩:=h2
 refine rD (RR:=fun acc C=>compPost (model X.prog X.w) X.A X.xe (some (assign (.Name x pos') X.env)) (fun _ s'=>SP X pins D .next s') acc C) (Q:=fun v H'=>D.nx (σ.set i (some v)) H') hc caps hkind (eE.cell hok) e2 e3 I2 T st2 f2 n W hn w0 turn ?_
 intro L C ys H' s' ce q
 show wpAny _ X.A (assign (.Name x pos') X.env (.ref L)) _ _ s'
 refine wpAny_assign_Name (tW (v:=.ref L) ce.inv hN hi' hx rfl (fun s'' I'' sb=>?_) hf)
 obtain ⟨a,hsa,ha⟩:=sb
 have hCa:C≠a:=by
  rcases ha with z|z
  · rw [z]; exact ce.fp.2.1
  · exact fun z' => ce.fp.2.2.2.2.1 x a z z'.symm
 obtain ⟨m,hm⟩:=ce.ns
 exact ⟨m,hm.sameBut hsa hCa,fun h' hs'=>⟨_,_,CompEnd.gone (D:=L) (ys:=ys) (H':=H') I'' ce.fp hs',q⟩⟩
end
noncomputable def aFN(W:Nat->List V->Hp->Prop)(i:Nat)(ys:List V):Option V->Hp->Prop
 | some y,H=>W (i+1) (ys++[y]) H
 | none,H=>W (i+1) ys H
theorem yO{X:Cx}{J:It}{N:List Str}{scope:Scope}{js:List (Option Nat)}{tg elt:Expr}{ifs:List Expr}{σ:St}{Q:VK}{n:Nat}{H1:Hp}(W:Nat->List V->Hp->Prop)(hz:n<=sizeLine)(w0:W 0 [] H1)
  (hl:∀ i ys H,i<=n->W i ys H->ys.length<=i) (hgo:∀ i ys H,i < n->W i ys H->J.go i H) (hst:∀ ys H,W n ys H->J.stop n H)
  (step:∀ i x ys H H',i < n->W i ys H->J.yld i H x H'->sN X N scope js tg elt ifs σ x H' (aFN W i ys))
  (done:∀ ys H,W n ys H->∀ p,H p=none->Q (.ref p) (upd H p (.lst ys))) :
  compK X N scope js tg elt ifs σ Q J H1:=by
 refine ⟨n,fun i ys H=>i<=n/\W i ys H,hz,⟨Nat.zero_le _,w0⟩,?_⟩
 rintro i ys H ⟨hi,w⟩
 refine ⟨hl i ys H hi w,?_⟩
 by_cases hlt:i < n
 ·exact .inr ⟨hgo i ys H hlt w,hlt,aFN W i ys,fun y H2 q=>⟨hlt,q⟩,fun H2 q=>⟨hlt,q⟩,fun x H' y=>step i x ys H H' hlt w y⟩
 ·have e:i=n:=by omega
  subst e
  exact .inl ⟨hst ys H w,done ys H w⟩
end L2
namespace L2
open PySem PySem.Spec PyProof.Rows
mutual
inductive DatV(K:Frag)(H:Hp):V->PyData->Prop
 | non:DatV K H .non .none
 | bl (b:Bool):DatV K H (.bl b) (.bool b)
 | int (i:Int):DatV K H (.int i) (.int i)
 | str (x:Str):DatV K H (.str x) (.str x)
 | lst {a:Addr} {xs:List V} {ds:List PyData}:SqL K H a xs->DatVs K H xs ds->DatV K H (.ref a) (.list ds)
 | tup {a:Addr} {xs:List V} {ds:List PyData}:SqT K H a xs->DatVs K H xs ds->DatV K H (.ref a) (.tuple ds)
inductive DatVs(K:Frag)(H:Hp):List V->List PyData->Prop
 | nil:DatVs K H [] []
 | cons {x:V} {d:PyData} {xs:List V} {ds:List PyData}:DatV K H x d->DatVs K H xs ds->DatVs K H (x::xs) (d::ds)
end
section
variable{X:Cx}{pins:List (Addr×Obj)}{σ:St}{H:Hp}{s:Shared}
theorem DatV.reads(I:Inv X pins σ H s){x:V}{d:PyData}{u:Value}(h:DatV X.K H x d)(r:bH x u):∃ as,Reads s.heap u d as:=by
 refine DatV.rec (motive_1:=fun x d _=>∀ u,bH x u->∃ as,Reads s.heap u d as) (motive_2:=fun xs ds _=>∀ us,bG xs us->∃ as,ReadsAll s.heap us ds as) ?_ ?_ ?_ ?_ ?_ ?_ ?_ ?_ h u r
 ·intro u r;cases r;exact ⟨_,.none⟩
 ·intro b u r;cases r;exact ⟨_,.bool b⟩
 ·intro i u r;obtain ⟨t,rfl⟩:=r;exact ⟨_,.int i t⟩
 ·intro x u r;obtain ⟨t,rfl⟩:=r;exact ⟨_,.str x t⟩
 ·intro a xs ds h _ ih u r
  cases r
  obtain ⟨its,rv,p,hz⟩:=I.list h
  obtain ⟨o,e,c,n,d⟩:=p.isList
  obtain ⟨as,q⟩:=ih _ rv
  exact ⟨_,.list e c d (by simpa using q)⟩
 ·intro a xs ds h _ ih u r
  cases r
  obtain ⟨its,rv,p,hz⟩:=I.tuple h
  obtain ⟨o,e,c,n,d⟩:=p
  obtain ⟨as,q⟩:=ih _ rv
  exact ⟨_,.tuple e c d (by simpa using q)⟩
 ·intro us r;cases r;exact ⟨_,.nil⟩
 ·intro x d xs ds _ _ i1 i2 us r
  cases r with
  | cons r1 r2=>
   obtain ⟨as,q⟩:=i1 _ r1
   obtain ⟨bs,q2⟩:=i2 _ r2
   exact ⟨_,.cons q q2⟩
theorem aI3(hu:X.A.units+64 < cLine):OpR X (compareOp .Eq) (fun x y H Q=>∃ d e,DatV X.K H x d/\DatV X.K H y e/\SeqAt.shaped d=true/\SeqAt.shaped e=true/\Q (.bl (PyData.eqv d e)) H):=by
 intro pins s σ H x y u v Q I rx ry h
 obtain ⟨d,e,hx,hy,sd,se,q⟩:=h
 obtain ⟨as,r1⟩:=hx.reads I rx
 obtain ⟨bs,r2⟩:=hy.reads I ry
 exact eq_dataH r1 r2 sd se hu ⟨.bl _,H,I,rfl,q⟩
end
theorem SqL.same{K:Frag}{H H':Hp}{a:Addr}{xs:List V}(e:aO H H')(h:SqL K H a xs):SqL K H' a xs:=aO.seq e h
theorem SqT.same{K:Frag}{H H':Hp}{a:Addr}{xs:List V}(e:aO H H')(h:SqT K H a xs):SqT K H' a xs:=by
 rcases h with (h|⟨o,h⟩)|h
 · exact .inl (.inl (e _ _ h))
 · exact .inl (.inr ⟨o, e _ _ h⟩)
 · exact .inr h
theorem DatV.same{K:Frag}{H H':Hp}(e:aO H H'){x:V}{d:PyData}(h:DatV K H x d):DatV K H' x d:=
 DatV.rec (motive_1:=fun x d _=>DatV K H' x d) (motive_2:=fun xs ds _=>DatVs K H' xs ds) .non .bl .int .str (fun h _ q=>.lst (h.same e) q) (fun h _ q=>.tup (h.same e) q) .nil (fun _ _ p q=>.cons p q) h
theorem DatVs.same{K:Frag}{H H':Hp}(e:aO H H'){xs:List V}{ds:List PyData}(h:DatVs K H xs ds):DatVs K H' xs ds:=
 DatVs.rec (motive_1:=fun x d _=>DatV K H' x d) (motive_2:=fun xs ds _=>DatVs K H' xs ds) .non .bl .int .str (fun h _ q=>.lst (h.same e) q) (fun h _ q=>.tup (h.same e) q) .nil (fun _ _ p q=>.cons p q) h
theorem aO.upd{H:Hp}{a:Addr}{o:HO}(h:H a=none):aO H (upd H a o):=fun b u e=>by rw[aK (cN e h)];exact e
theorem DatVs.length{K:Frag}{H:Hp}:∀ {xs:List V} {ds:List PyData},DatVs K H xs ds->xs.length=ds.length
 | _,_,.nil=>rfl
 | _,_,.cons _ t=>by simp[DatVs.length t]
theorem DatVs.append{K:Frag}{H:Hp}:∀ {xs ys:List V} {ds es:List PyData},DatVs K H xs ds->DatVs K H ys es->DatVs K H (xs++ys) (ds++es)
 | _,_,_,_,.nil,h=>h
 | _,_,_,_,.cons a t,h=>.cons a (DatVs.append t h)
theorem DatVs.get{K:Frag}{H:Hp}:∀ {xs:List V} {ds:List PyData} {i:Nat} {x:V},DatVs K H xs ds->xs[i]? = some x->∃ d,ds[i]? = some d/\DatV K H x d
 | _,_,_,_,.nil,e=>by simp at e
 | _,_,0,_,.cons a t,e=>by simp at e;subst e;exact ⟨_,by simp,a⟩
 | _,_,i+1,x,.cons a t,e=>by
  obtain ⟨d,h1,h2⟩:=DatVs.get (i:=i) (x:=x) t (by simpa using e)
  exact ⟨d,by simpa using h1,h2⟩
theorem DatVs.get'{K:Frag}{H:Hp}:∀ {xs:List V} {ds:List PyData} {i:Nat} {d:PyData},DatVs K H xs ds->ds[i]? = some d->∃ x,xs[i]? = some x/\DatV K H x d
 | _,_,_,_,.nil,e=>by simp at e
 | _,_,0,_,.cons a t,e=>by simp at e;subst e;exact ⟨_,by simp,a⟩
 | _,_,i+1,x,.cons a t,e=>by
  obtain ⟨d,h1,h2⟩:=DatVs.get' (i:=i) (d:=x) t (by simpa using e)
  exact ⟨d,by simpa using h1,h2⟩
theorem DatVs.drop{K:Frag}{H:Hp}:∀ {xs:List V} {ds:List PyData} (n:Nat),DatVs K H xs ds->DatVs K H (xs.drop n) (ds.drop n)
 | _,_,0,h=>h
 | _,_,_+1,.nil=>.nil
 | _,_,n+1,.cons _ t=>DatVs.drop n t
theorem DatVs.take{K:Frag}{H:Hp}:∀ {xs:List V} {ds:List PyData} (n:Nat),DatVs K H xs ds->DatVs K H (xs.take n) (ds.take n)
 | _,_,0,_=>.nil
 | _,_,_+1,.nil=>.nil
 | _,_,n+1,.cons a t=>.cons a (DatVs.take n t)
def Ite(K:Frag)(a:Addr):It:=
 ⟨fun i H=>∃ xs x,SqL K H a xs/\xs[i]? = some x,fun i H x H'=>∃ p v,H p=none/\x=.ref p/\H'=upd H p (.tup [.int i,v])/\∀ xs,SqL K H a xs->xs[i]? = some v,fun i H=>∃ xs,SqL K H a xs/\xs.length<=i⟩
theorem aBP{P:Program}{w:World}{K:Frag}{es:List Expr}{k1}{tpos:Pos}(a e it:Addr)(hei:e≠it):Turn P w K (.Tuple es k1 tpos) (Ite K a) [e,it] e (fun i h=>(∃ old,IsEnum h e it i old)/\h.IsListIter it a i) where
 mem:=by simp
 obj:=fun i h st b hb=>by
  obtain ⟨⟨old,s1⟩,o,e2,c,d⟩:=st
  rcases List.mem_cons.mp hb with z|z
  ·subst z
   exact ⟨_,s1,fun v z=>by
    have z':Data.fields _=Data.cell v:=z
    cases z'⟩
  ·obtain rfl:b=it:=by simpa using z
   exact ⟨o,e2,fun v z=>by rw[d] at z;cases z⟩
 keep:=fun i h h' st k=>by
  obtain ⟨⟨old,s1⟩,s2⟩:=st
  exact ⟨⟨old,k e (by simp) _ s1⟩,s2.at fun o q=>k it (by simp) o q⟩
 item:=by
  intro X hP hw hK hc i pins s σ H E I hf st hg
  subst hP hw hK
  obtain ⟨⟨old,s1⟩,s2⟩:=st
  obtain ⟨xs,x,hq,hx⟩:=hg
  obtain ⟨its,rv,p,hz⟩:=I.list hq
  obtain ⟨u,hu,ru⟩:=rv.get hx
  obtain ⟨f0,f1,f2,f3,f4,f5⟩:=hf e (by simp)
  obtain ⟨g0,g1,g2,g3,g4,g5⟩:=hf it (by simp)
  refine wpAny_pyNext_enum_item s1 s2 p.isList (x:=u) (by simpa using hu) hei fun h' so si st hz' kp=>?_
  refine ⟨_,rfl,wpAny_letOwnedTupleGo_enum so fun h2 se sb=>?_⟩
  have ne1:s.heap.objs.size≠e:=Nat.ne_of_gt (Heap.lt_size s1)
  have hT2:h2.get? s.heap.objs.size=some {cls:=.type "tuple",data:=.seq #[.int i s.toks,u]}:=(sb.2 _ ne1).trans st
  have fT:H s.heap.objs.size=none:=I.hok.fresh (Nat.le_refl _)
  have kp2:∀ b o,b≠e->b≠it->s.heap.get? b=some o->h2.get? b=some o:=fun b o h1 h2' q=>(sb.2 b h1).trans (kp b o h1 h2' q)
  have hok2:HOk X.prog X.w H h2:=fun b uu q=>by
   refine (I.hok b uu q).stay (fun c v hc q'=>kp2 c v ?_ ?_ q') (fun _ q=>q) (fun _ _ q=>q) fun _ _ q=>q
   ·rcases hc with z|z
    ·rw[z];exact fun zz=>by rw[zz,f0] at q;cases q
    ·exact fun zz=>by rw[zz,f0] at z;cases z
   ·rcases hc with z|z
    ·rw[z];exact fun zz=>by rw[zz,g0] at q;cases q
    ·exact fun zz=>by rw[zz,g0] at z;cases z
  have hokT:HOk X.prog X.w (upd H s.heap.objs.size (.tup [.int i,x])) h2:=HOk.track hok2 fT ⟨by show 2<=sizeLine;decide,[.int i s.toks,u],.cons ⟨_,rfl⟩ (.cons ru .nil),⟨_,hT2,rfl,_,rfl⟩⟩
  have ltT:∀ b uu,H b=some uu->b≠s.heap.objs.size:=fun b uu q=>cN q fT
  have I2:Inv X pins σ (upd H s.heap.objs.size (.tup [.int i,x])) {s with heap:=h2,gens:=s.gens,drawn:=s.drawn,toks:=s.toks+1}:=by
   refine I.step (ch:=[e,it]) (fun b hb=>?_) (fun b o _ _ hc q _=>kp2 b o (fun z=>hc (by simp[z])) (fun z=>hc (by simp[z])) q) (fun b o _ _ hc q _=>⟨o.slots,kp2 b o (fun z=>hc (by simp[z])) (fun z=>hc (by simp[z])) q⟩)
    (fun b o _ q n=>by rw[aK (Nat.ne_of_lt (Heap.lt_size q))];exact n) (fun b o hc q=>⟨o,kp2 b o (fun z=>hc (by simp[z])) (fun z=>hc (by simp[z])) q⟩) (fun b ys q=>by rw[aK (ltT b _ q)];exact q) (fun b o uu q=>by rw[aK (ltT b _ q)];exact q)
    (fun b ps q=>by rw[aK (ltT b _ q)];exact q) (fun m hm=>?_) hokT I.bare
   ·rcases List.mem_cons.mp hb with z|z
    ·subst z;exact ⟨f3,f1,f4,f5⟩
    ·obtain rfl:b=it:=by simpa using z
     exact ⟨g3,g1,g4,g5⟩
   ·obtain ⟨o,es',ep,ho,r⟩:=hm
    exact ⟨o,es',ep,kp2 _ o (Ne.symm f1) (Ne.symm g1) ho,r⟩
  refine ⟨.ref s.heap.objs.size,_,I2,rfl,⟨_,x,fT,rfl,rfl,fun ys hy=>by rw[I.list_inj hy hq];exact hx⟩,⟨⟨u,by simpa using se⟩,si.at fun o q=>(sb.2 it hei.symm).trans q⟩,fun b hb=>?_⟩
  rcases List.mem_cons.mp hb with z|z
  ·subst z;rw[aK (Ne.symm ne1)];exact f0
  ·obtain rfl:b=it:=by simpa using z
   obtain ⟨o,q,_⟩:=s2
   rw[aK (Nat.ne_of_lt (Heap.lt_size q))];exact g0
 done:=by
  intro X hP hw hK hc i pins s σ H E I hf st hg
  subst hP hw hK
  obtain ⟨⟨old,s1⟩,s2⟩:=st
  obtain ⟨xs,hq,hx⟩:=hg
  obtain ⟨its,rv,p,hz⟩:=I.list hq
  obtain ⟨g0,g1,g2,g3,g4,g5⟩:=hf it (by simp)
  have hl:=rv.length
  exact wpAny_pyNext_enum_end (I.ok.hd hc) s1 s2 p.isList (by simp;omega) fun h' eb=>⟨rfl,I.turned (t':=s.toks) (fun b o hb q=>eb b o hb q) g0 g1 g3 g4 g5⟩
 self:=fun _ _ _ _ _ st h=>wpAny_pyIter_enum st.1.choose_spec h
def aFO(K:Frag)(ta:TA):TI:=fun σ H R=>ta σ H fun vs H1=>∃ a,vs=[.ref a]/\(∃ xs,SqL K H1 a xs)/\R (Ite K a) H1
theorem aGQ{X:Cx}{es:List Expr}{k1}{tpos:Pos}{a:Expr}{ta:TA}{p pos:Pos}(hg:Gl X "enumerate")(hm:X.mg "enumerate"=none)(ha:PA X [a] ta)(hs:starEach [a] X.env=[(false,eval a X.env)]:=by rfl) :
  PI X (.Tuple es k1 tpos) (.Call (.Name "enumerate" p) [a] [] pos) (aFO X.K ta):=by
 intro pins s σ H R I h
 refine Call_ (j4 I hg hm PyProof.Rows.boot_enumerate (PyProof.Rows.callWith_type1 (thn (ha pos pins s σ H _ I h) fun us s1 zz0=>?_) hs rfl))
 obtain ⟨vs,H1,I1,r1,q1⟩:=zz0
 obtain ⟨j,e,⟨xs,hq⟩,q⟩:=q1
 subst e
 obtain ⟨u,rfl,ru⟩:=mZ r1
 cases ru
 obtain ⟨its,rv,pl,hz⟩:=I1.list hq
 refine call_enumerate_list pl.isList fun h' se si hz' kp=>?_
 have I2:Inv X pins σ H1 {s1 with heap:=h'}:=I1.kept (t':=s1.toks) kp
 refine wpAny_pyIter_enum se ?_
 refine ⟨s1.heap.objs.size+1,[s1.heap.objs.size+1,s1.heap.objs.size],_,_,H1,rfl,I2,aBP j _ _ (Nat.ne_of_gt (Nat.lt_succ_self _)),⟨⟨_,se⟩,si⟩,fun b hb=>?_,q⟩
 rcases List.mem_cons.mp hb with z|z
 ·subst z
  exact I1.fpOk (Nat.le_succ _) (I1.hok.fresh (Nat.le_succ _))
 ·obtain rfl:b=s1.heap.objs.size:=by simpa using z
  exact I1.fpOk (Nat.le_refl _) (I1.hok.fresh (Nat.le_refl _))
end L2
namespace SX
open PySem PySem.W
section
variable{prog:Program}{w:World}{A:Around}{E:Value->Shared->Prop}{h:Heap}{g:Array GenState}{d:Drawn}{t:Nat}{os:OsState}{K:Frag}
variable{nm q:Str}{C N:Addr}{bs bm bmB:List Value}{hdct:Bool}{sn:List Str}{sub:List Value}{ab:Bool}{col:Option Bool}{dd:Option Addr}{k0 k1 k2 k3 k5:Option Value}{B newId initId:String}
structure BmOk(B:String)(bm:List Value):Prop where
 hasB:bm.contains (.type B)=true
 hasBase:bm.contains (.type "BaseException")=true
 noAttr:bm.contains (.type "AttributeError")=false
 noName:bm.contains (.type "NameError")=false
theorem z9(F:ExcBaseFacts B newId initId bmB)(T:BmOk B bm){M:Model}{rest:List Value}{Q:Unit->Shared->Prop}(hC:h.get? C=some (excClassObj nm q C N bs bm hdct sn sub ab col dd k0 k1 k2 k3 k5 newId))
  (hq:Q () ⟨h,g,d,t,os⟩):wpAny M A (checkBuiltinCall newId ⟨.ref C::rest,[]⟩) Q E ⟨h,g,d,t,os⟩:=by
 have hcont:(Value.ref C::bm).contains (.type B)=true:=by rw[List.contains_cons,T.hasB,Bool.or_true]
 have hstar:=F.noStar
 simp only[checkBuiltinCall,F.newKind,F.newSplit,F.newRow]
 repeat (first|refine wpAny_loadPart_at hC ?_|(refine wpAny_isSubtype_exc hC ?_;rw[hcont])|refine wpAny_staticBase_exc hC ?_|refine wpAny_madeBy_exc hC ?_|simp only[bne_self_eq_false,Bool.false_eq_true,if_false]|wp_step)
 exact hq
theorem aDS(F:ExcBaseFacts B newId initId bmB)(T:BmOk B bm){R:Result->Shared->Prop}{rest:List Value}(hC:h.get? C=some (excClassObj nm q C N bs bm hdct sn sub ab col dd k0 k1 k2 k3 k5 newId))
  (hq:R (.ok (.ret (.ref (h.objs.size+1)))) ⟨(h.push {cls:=.type "tuple",data:=.seq rest.toArray}).push
   {cls:=.ref C,data:=.fields #[.ref h.objs.size,.none,.none,.none,.bool false,.none]},g,d,t,os⟩) (hrest:rest.length<=sizeLine) :
  codeAny (model prog w) A (.builtin newId ⟨.ref C::rest,[]⟩) R ⟨h,g,d,t,os⟩:=by
 have hends:=F.ends
 have hcB:(Value.ref C::bm).contains (.type B)=true:=by rw[List.contains_cons,T.hasB,Bool.or_true]
 have hcA:(Value.ref C::bm).contains (.type "AttributeError")=false:=by rw[List.contains_cons,T.noAttr];rfl
 have hcN:(Value.ref C::bm).contains (.type "NameError")=false:=by rw[List.contains_cons,T.noName];rfl
 refine codeAny_builtinAt F.entry ?_
 unfold Builtin.«BaseException.__new__»
 refine wpAt_bind ?_
 show wpAt _ _ _ (stack >>= _) _ _ _
 refine wpAt_bind (wpAt_stack fun p below=>wpAt_of_wpAny ?_)
 wp_walk
 refine wpAt_of_wpAny ?_
 rw[F.owner]
 repeat (first|with_reducible refine wpAny_madeHere_exc F.canon hC ?_|with_reducible refine wpAny_loadPart_at hC ?_|(with_reducible refine wpAny_isSubtype_exc hC ?_;first|rw[hcB]|rw[hcA]|rw[hcN])|wp_step)
 show R _ _
 rw[Heap.size_push]
 exact hq
theorem wH(F:ExcBaseFacts B newId initId bmB)(T:BmOk B bm)(X:K.In h){rest:List Value}{fI:Addr}{Q:Fin->Shared->Prop}
  (hC:h.get? C=some (excClassObj nm q C N bs bm hdct sn sub ab col dd k0 k1 k2 k3 k5 newId)) (hi:findIn K (.ref C) "__init__"=some (some (.ref fI))) (hf:typeIn K (.ref fI)=some (.type "function"))
  (hq:∀ h' e,Heap.MadeExcOf h h' e (.ref C) rest->h.objs.size<=e->
   wpAny (model prog w) A (call (.ref fI) (.ref e::rest)) (fun r s'=>r=.none/\Q (.done (.ret (.ref e))) s') E ⟨h',g,d,t,os⟩) (hrest:rest.length<=sizeLine) :
  wpAny (model prog w) A (Builtin.«type.__call__» ⟨.ref C::rest,[]⟩) Q E ⟨h,g,d,t,os⟩:=by
 repeat (first|with_reducible refine wpAny_loadPart_at hC ?_|with_reducible refine wpAny_madeBy_exc hC ?_|wp_step)
 refine codeAny_call_builtin_code (Code.quiet_builtin _ F.quiet) (z9 F T hC ?_)
 refine aDS F T hC ?_ hrest
 show wpAny _ _ _ _ _ _
 have kp:∀ b o,h.get? b=some o->((h.push {cls:=.type "tuple",data:=.seq rest.toArray}).push {cls:=.ref C,data:=.fields #[.ref h.objs.size,.none,.none,.none,.bool false,.none]}).get? b=some o:=fun b o e=>Heap.get?_push_of_some _ (Heap.get?_push_of_some _ e)
 have hC₁:=kp _ _ hC
 have X₁:=X.keeps kp
 have hget:((h.push {cls:=.type "tuple",data:=.seq rest.toArray}).push
   {cls:=.ref C,data:=.fields #[.ref h.objs.size,.none,.none,.none,.bool false,.none]}).get? (h.objs.size+1)=some
   {cls:=.ref C,data:=.fields #[.ref h.objs.size,.none,.none,.none,.bool false,.none]}:=by heap_get
 have hcC:(Value.ref C::bm).contains (.ref C)=true:=by simp
 unfold isInstance
 repeat (first|with_reducible refine wpAny_loadPart_at hget ?_|(with_reducible refine wpAny_isSubtype_exc hC₁ ?_;rw[hcC])|wp_step)
 show wpAny _ _ (typeLookup (.ref C) _) _ _ _
 refine (looks_findIn (M:=model prog w) X₁ hi).at ?_
 refine wpAny_holding (wpAny_bind ?_)
 refine (bind_fn (M:=model prog w) X₁ _ hf).at ?_
 refine wpAny_bind (wpAny_mono (hq _ (h.objs.size+1) ⟨kp,Heap.get?_none_of_le (Nat.le_succ _),h.objs.size,hget,Heap.get?_none_of_le (Nat.le_refl _),?_⟩ (Nat.le_succ _)) (fun r s' hr=>?_) fun _ _ x=>x)
 ·exact Heap.get?_push_of_some _ (Heap.get?_push_at rfl rfl)
 ·obtain ⟨rfl,hQ⟩:=hr
  wp_walk
  exact hQ
theorem aDT(F:ExcBaseFacts B newId initId bmB)(T:BmOk B bm)(X:K.In h){rest:List Value}{fI:Addr}{Q:Value->Shared->Prop}
  (hC:h.get? C=some (excClassObj nm q C N bs bm hdct sn sub ab col dd k0 k1 k2 k3 k5 newId)) (hi:findIn K (.ref C) "__init__"=some (some (.ref fI))) (hf:typeIn K (.ref fI)=some (.type "function"))
  (hq:∀ h' e,Heap.MadeExcOf h h' e (.ref C) rest->h.objs.size<=e->
   wpAny (model prog w) (A.under (.builtin "type.__call__" ⟨.ref C::rest,[]⟩)) (call (.ref fI) (.ref e::rest)) (fun r s'=>r=.none/\Q (.ref e) s') E ⟨h',g,d,t,os⟩) (hrest:rest.length<=sizeLine) :
  wpAny (model prog w) A (call (.ref C) rest) Q E ⟨h,g,d,t,os⟩:=by
 have f1:=tc_lookup
 have f2:=tc_bind (.ref C)
 have hT:(⟨h,g,d,t,os⟩:Shared).TypeIs (.ref C) "type":=⟨_,hC,rfl⟩
 refine wpAny_call (codeAny_of_tree ?_)
 show wpAny _ _ (callAny (.ref C) _) _ _ _
 repeat (any_goals (first|assumption|with_reducible refine wpAny_loadPart_at hC ?_|wp_step))
 refine ⟨rfl,?_⟩
 refine codeAny_call_builtin_at (Code.quiet_builtin _ (by decide +kernel)) entry_typeCall (wpAny_check_type_call_sub hC (wH F T X hC hi hf (fun h' e hm hle=>?_) hrest))
 exact hq h' e hm hle
theorem rE{M:Model}{env:Env}{s:Shared}{x:Sem Value}{Q:Flow->Shared->Prop}(T:BmOk B bm)(hh:A.handled=none)
  (hx:wpAny M A x (fun v s₁=>∃ e od vs,v=.ref e/\s₁.heap.get? C=some (excClassObj nm q C N bs bm hdct sn sub ab col dd k0 k1 k2 k3 k5 newId) /\
   s₁.heap.get? e=some {cls:=.ref C,dict:=od,data:=.fields vs}/\vs[1]? = some .none/\E (.ref e) s₁) E s) :
  wpAny M A (raiseStmt env (some x) none) Q E s:=by
 have hcB:(Value.ref C::bm).contains (.type "BaseException")=true:=by rw[List.contains_cons,T.hasBase,Bool.or_true]
 unfold raiseStmt
 refine wpAny_bind (wpAny_mono hx (fun v s₁ h₁=>?_) fun _ _ x=>x)
 obtain ⟨e,od,vs,rfl,hC,he,h1,hE⟩:=h₁
 obtain ⟨hp,g,d,tk,os⟩:=s₁
 repeat (first|with_reducible refine wpAny_loadPart_at he ?_|with_reducible refine wpAny_loadPart_at hC ?_|(with_reducible refine wpAny_isSubtype_exc hC ?_;rw[hcB])|(with_reducible refine wpAny_field he rfl h1 ?_)|wp_step)
 exact wpAny_raiseNew_none hh hE
end
end SX
namespace SX
open PySem PySem.W PySem.Builtin PySem.Builtin.ObjectAttr
abbrev hV:List Value:=[.type "ValueError",.type "Exception",.type "BaseException",.type "object"]
structure ExcC(K:Frag)(W C:Addr):Prop where
 lk:∃ nm q N bs sn sub ab col dd k0 k1 k2 k3 k5,K.lookup C=some (excClassObj nm q C N bs (.ref W::hV) true sn sub ab col dd k0 k1 k2 k3 k5 "ValueError.__new__")
 sa:findIn K (.ref C) "__setattr__"=some (some (.builtin "object.__setattr__"))
 ga:findIn K (.ref C) "__getattribute__"=some (some (.builtin "BaseException.__getattribute__"))
 gh:findIn K (.ref C) "__getattr__"=some none
 cl:findIn K (.ref C) "__class__"=some (some (.builtin "object.__class__"))
 clg:specialIn K (.builtin "object.__class__") "__get__"=some (some (.builtin "getset_descriptor.__get__"))
 clt:takesIn K (.builtin "object.__class__")=some true
 kp:keepIn K (.ref C)=true
theorem aDU(W:Addr):BmOk "ValueError" (.ref W::hV):=⟨by simp[hV],by simp[hV],by simp[hV],by simp[hV]⟩
theorem passes(self:Value)(C W:Addr):refuseLoop self "__setattr__" (.ref C::.ref W::hV)=pure ():=by
 rw[refuseLoop_ref,refuseLoop_ref]
 exact PySem.F.store_ValueError.passes self
theorem ExcC.cls{K:Frag}{W C:Addr}(c:ExcC K W C):∃ cd:ClassData,clsIn K C=some cd/\cd.hasDict=true/\cd.mro=.ref C::.ref W::hV:=by
 obtain ⟨nm,q,N,bs,sn,sub,ab,col,dd,k0,k1,k2,k3,k5,e⟩:=c.lk
 exact ⟨_,by unfold clsIn;rw[e],rfl,rfl⟩
theorem ExcC.mro{K:Frag}{W C:Addr}(c:ExcC K W C)(b:Value):mroIn K C b=some ((Value.ref C::.ref W::hV).contains b):=by
 obtain ⟨cd,h1,_,h3⟩:=c.cls
 unfold mroIn
 rw[h1,Option.bind_some,h3]
 rfl
section
variable{prog:Program}{w:World}{A:Around}{E:Value->Shared->Prop}{s:Shared}{K:Frag}{W C x:Addr}{name:Str}{v:Value}{vs:Array Value}
theorem yP{od:Option Addr}{o:Option Obj}{tk:Tok}{R:Result->Shared->Prop}(X:K.In s.heap)(c:ExcC K W C)(na:findIn K (.ref C) name=some none)(I:InstAt s.heap x ⟨.ref C,od,.fields vs,#[]⟩ C o)
  (h:wpAny (model prog w) A.in1 (storeInOwnDict (.ref x) (.ref C) (.str name tk) name v false)
   (fun fin s'=>match fin with | .done f=>R (.ok f) s' | .again c'=>c'.quiet=true/\codeAny (model prog w) A c' R s') (fun e s'=>R (.error e) s') s) :
  codeAny (model prog w) A (.call (.builtin "object.__setattr__") ⟨[.ref x,.str name tk,v],[]⟩) R s:=by
 have SF:=PySem.F.store_object
 obtain ⟨cd,hc,hdct,hmro⟩:=c.cls
 have sub:Looks (model prog w) s.heap (isInstance (.ref x) (.type "object")) true:=I.type.andThen (looks_mroIn X (by rw[c.mro];simp[hV]))
 refine codeAny_call_builtin SF.slot.plain SF.entry (@check_slot (model prog w) _ _ s "object.__setattr__" "object" "__setattr__" (.ref x) [.str name tk,v] [] _ SF.kind SF.split sub (SF.args (.ref x) (.str name tk) v) ?_)
 have hm:Looks (model prog w) s.heap (mroOf (.ref C)) cd.mro:=(looks_clsIn X hc).andThen .now
 rw[osa_eq,refuse_eq]
 refine wpAny_bind (wpAny_bind (I.type.here (wpAny_bind (hm.here ?_))))
 rw[hmro,passes]
 exact wpAny_pure (wpAny_bind (I.type.here (wpAny_bind ((looks_findIn X na).here (wpAny_bind (wpAny_pure h))))))
theorem aBQ{Q:Unit->Shared->Prop}(X:K.In s.heap)(c:ExcC K W C)(na:findIn K (.ref C) name=some none)(hx:s.heap.get? x=some ⟨.ref C,none,.fields vs,#[]⟩)
  (h:∀ h' tk',h'.get? x=some ⟨.ref C,some s.heap.objs.size,.fields vs,#[]⟩->h'.Ns1 s.heap.objs.size (fun y=>if y=name then some v else none)->(∀ b o,b≠x->s.heap.get? b=some o->h'.get? b=some o)->Q () {s with heap:=h',toks:=tk'}) :
  wpAny (model prog w) A (setAttr (.ref x) name v) Q E s:=by
 have I:InstAt s.heap x ⟨.ref C,none,.fields vs,#[]⟩ C none:=⟨hx,rfl,rfl,trivial⟩
 refine set_plain X I c.sa (yP (s:={s with toks:=s.toks+1}) X c na I ?_)
 obtain ⟨cd,hc,hdct,hmro⟩:=c.cls
 obtain ⟨hp,g,d,t,os⟩:=s
 have hx:hp.get? x=some ⟨.ref C,none,.fields vs,#[]⟩:=hx
 unfold storeInOwnDict
 refine wpAny_bind (wpAny_pure ?_)
 show wpAny _ _ (ownDictForStores (.ref x) >>= _) _ _ _
 refine wpAny_bind ?_
 show wpAny _ _ (instanceDict x true) _ _ _
 unfold instanceDict
 refine wpAny_bind (wpAny_loadPart hx (wpAny_bind ((looks_clsIn (M:=model prog w) X hc).at ?_)))
 rw[hdct]
 have hx₁:(hp.push {cls:=.type "dict",data:=.dict #[]}).get? x=some ⟨.ref C,none,.fields vs,#[]⟩:=Heap.get?_push_of_some _ hx
 have hxs:x≠hp.objs.size:=Nat.ne_of_lt (Heap.lt_size hx)
 refine wpAny_bind (wpAny_alloc' ?_)
 refine wpAny_bind (wpAny_update' hx₁ ?_)
 refine wpAny_pure ?_
 have hgd:((hp.push {cls:=.type "dict",data:=.dict #[]}).update x fun o=>{cls:=o.cls,dict:=some hp.objs.size,data:=o.data,slots:=o.slots}).get? hp.objs.size
   = some {cls:=.type "dict",data:=.dict #[]}:=
  (Heap.get?_update_ne _ _ _ _ hxs.symm).trans (Heap.get?_push_at rfl rfl)
 have hnd:((hp.push {cls:=.type "dict",data:=.dict #[]}).update x fun o=>{cls:=o.cls,dict:=some hp.objs.size,data:=o.data,slots:=o.slots}).Ns hp.objs.size (fun _=>none):=
  ⟨_,#[],_,hgd,rfl,fun e he=>absurd he (by simp),fun _=>rfl⟩
 show wpAny _ _ (storeInDict hp.objs.size (.str name t) name v) _ _ _
 unfold storeInDict newKeyGuard
 refine wpAny_bind (wpAny_pure (wpAny_bind (wpAny_nsSet1 (Heap.Ns1.of_empty hnd) fun h' hn' hs=>?_)))
 obtain ⟨oD,esD,epD,hoD,hdD,hcD⟩:=hn'.count (Within.cons name v Within.nil)
 refine wpAny_bind (wpAny_lookBehind hoD (by rw[hdD];exact pastItsLine_dict (Nat.le_trans hcD (by rw[List.length_cons,List.length_nil,sizeLine_eq];omega))) ?_)
 refine wpAny_pure (h h' _ ?_ hn' fun b o hbx hb=>?_)
 ·exact (hs.2 x hxs).trans (Heap.get?_update_self _ hx₁ rfl)
 ·exact (hs.2 b (Nat.ne_of_lt (Heap.lt_size hb))).trans ((Heap.get?_update_ne _ _ _ _ hbx).trans (Heap.get?_push_of_some _ hb))
theorem aDV{Q:Unit->Shared->Prop}{dx:Addr}{mA:Str->Option Value}{ns:List Str}(X:K.In s.heap)(c:ExcC K W C)(na:findIn K (.ref C) name=some none)(hx:s.heap.get? x=some ⟨.ref C,some dx,.fields vs,#[]⟩)
  (hne:dx≠x) (hns:s.heap.Ns1 dx mA) (hw:Within mA ns) (hsz:ns.length<=sizeLine)
  (h:∀ h' tk',h'.Ns1 dx (fun y=>if y=name then some v else mA y)->Heap.SameBut dx s.heap h'->Q () {s with heap:=h',toks:=tk'}) :
  wpAny (model prog w) A (setAttr (.ref x) name v) Q E s:=by
 obtain ⟨od,hod,_⟩:=L2.oI hns
 have I:InstAt s.heap x ⟨.ref C,some dx,.fields vs,#[]⟩ C (some od):=⟨hx,rfl,rfl,hod⟩
 refine set_plain X I c.sa (yP (s:={s with toks:=s.toks+1}) X c na I ?_)
 obtain ⟨cd,hc,hdct,hmro⟩:=c.cls
 obtain ⟨hp,g,d,t,os⟩:=s
 have hx:hp.get? x=some ⟨.ref C,some dx,.fields vs,#[]⟩:=hx
 unfold storeInOwnDict
 refine wpAny_bind (wpAny_pure ?_)
 show wpAny _ _ (ownDictForStores (.ref x) >>= _) _ _ _
 refine wpAny_bind ?_
 show wpAny _ _ (instanceDict x true) _ _ _
 unfold instanceDict
 refine wpAny_bind (wpAny_loadPart hx (wpAny_bind ((looks_clsIn (M:=model prog w) X hc).at ?_)))
 rw[hdct]
 refine wpAny_pure ?_
 show wpAny _ _ (storeInDict dx (.str name t) name v) _ _ _
 unfold storeInDict newKeyGuard
 refine wpAny_bind (wpAny_pure (wpAny_bind (wpAny_nsSet1 hns fun h' hn' hs=>?_)))
 obtain ⟨oD,esD,epD,hoD,hdD,hcD⟩:=hn'.count (Within.cons name v hw)
 refine wpAny_bind (wpAny_lookBehind hoD (by rw[hdD];exact pastItsLine_dict (Nat.le_trans hcD (by rw[List.length_cons];omega))) ?_)
 exact wpAny_pure (h h' _ hn' hs)
theorem aBR{od:Option Addr}{o:Option Obj}{Q:Option Value->Shared->Prop}(X:K.In s.heap)(c:ExcC K W C)(I:InstAt s.heap x ⟨.ref C,od,.fields vs,#[]⟩ C o)(h:Q (some (.ref C)) {s with toks:=s.toks+1}) :
  wpAny (model prog w) A (getAttr? (.ref x) "__class__") Q E s:=by
 obtain ⟨hp,g,d,t,os⟩:=s
 obtain ⟨cd,hcd,hdct,hmro⟩:=c.cls
 have L0:=I.type (M:=model prog w)
 have L1:=looks_findIn (M:=model prog w) X c.ga
 have L2:=looks_findIn (M:=model prog w) X c.gh
 have sub:Looks (model prog w) hp (isInstance (.ref x) (.type "BaseException")) true:=L0.andThen (looks_mroIn X (by rw[c.mro];simp[hV]))
 have hf:findObj K C o "__class__"=some (.bind (.builtin "getset_descriptor.__get__") (.builtin "object.__class__")):=by
  unfold findObj
  rw[hcd,Option.bind_some,c.cl,Option.bind_some]
  simp only[c.clg,c.clt,Option.bind_some]
 have L3:=looks_find (M:=model prog w) X I hf
 unfold getAttr?
 refine wpAny_bind (wpAny_mkText ?_)
 unfold getAttrBy?
 refine wpAny_bind (wpAny_attempt ?_)
 unfold getAttrBy
 refine wpAny_holding (wpAny_bind (L0.at (wpAny_bind (L1.at ?_))))
 show wpAny _ _ (getAttrByItsOwn _ _ _ _ _ _) _ _ _
 unfold getAttrByItsOwn
 refine wpAny_bind ?_
 show wpAny _ _ (typeLookup (.ref C) "__getattr__") _ _ _
 refine L2.at (wpAny_bind (wpAny_attempt (wpAny_holding ?_)))
 unfold callGetattribute
 rw[show (false && onTheHeap (Value.builtin "BaseException.__getattribute__"))=false from rfl,if_neg Bool.false_ne_true]
 unfold boundAndCalled
 rw[PySem.F.excAttr_ValueError.ga.bind]
 refine wpAny_bind (wpAny_pure ?_)
 have hk:builtinKind "BaseException.__getattribute__"=some .slot:=by decide +kernel
 have hsplit:splitId "BaseException.__getattribute__"=some ("BaseException","__getattribute__"):=by decide +kernel
 refine wpAny_call (codeAny_call_builtin PySem.F.excAttr_ValueError.ga.plain PySem.F.entry_bexc_ga (@check_slot (model prog w) _ _ _ "BaseException.__getattribute__" "BaseException" "__getattribute__" (.ref x) [.str "__class__" t] [] _ hk hsplit sub (PySem.F.args_bexc_ga (.ref x) (.str "__class__" t)) ?_))
 refine wpAny_bind (wpAny_pure (wpAny_bind (wpAny_pure ?_)))
 refine wpAny_bind (L0.at (wpAny_bind (L3.at ?_)))
 show wpAny _ _ (holding [.builtin "object.__class__"] (call (.builtin "getset_descriptor.__get__") [.builtin "object.__class__",.ref x,.ref C]) >>= ret) _ _ _
 refine wpAny_bind (wpAny_holding (wpAny_call (class_get (s:=⟨hp,g,d,t+1,os⟩) X I (by rw[c.mro];simp[hV]) ?_)))
 refine wpAny_pure ?_
 show wpAny _ _ (handedOut (.ref C)) _ _ _
 exact wpAny_pure (wpAny_pure h)
theorem aDW{od:Option Addr}{o:Option Obj}(c:ExcC K W C):KitX K (.ref x) (.ref C) (fun h=>InstAt h x ⟨.ref C,od,.fields vs,#[]⟩ C o) where
 ty:=fun _ _ _ I=>I.type
 it:=fun _ _ X _=>by
  obtain ⟨nm,q,N,bs,sn,sub,ab,col,dd,k0,k1,k2,k3,k5,e⟩:=c.lk
  intro A' Q' E' s' k q
  unfold isType loadHead
  exact wpAny_bind (wpAny_loadPart (k _ _ (X _ _ e)) (wpAny_pure q))
 ne:=fun h tp dd its n sl X htp=>by
  obtain ⟨nm,q,N,bs,sn,sub,ab,col,dd,k0,k1,k2,k3,k5,e⟩:=c.lk
  refine Bool.eq_false_iff.mpr fun q=>?_
  have e':C=tp:=Value.ref.inj (beq_iff_eq.mp q)
  subst e'
  have z:=(X _ _ e).symm.trans htp
  have z':Value.type "type"=Value.type "tuple":=congrArg Obj.cls (Option.some.inj z)
  exact absurd (Value.type.inj z') (by decide)
 ca:=fun X I k=>aBR X c I k
theorem rF{od:Option Addr}{o:Option Obj}{cv:Value}{b:Bool}{Q:Value->Shared->Prop}(X:K.In s.heap)(c:ExcC K W C)(I:InstAt s.heap x ⟨.ref C,od,.fields vs,#[]⟩ C o)(e:kitOne K (.ref C) cv=some b)(h:∀ tk,Q (.bool b) {s with toks:=tk}) :
 wpAny (model prog w) A (call (.builtin "isinstance") [.ref x,cv]) Q E s:=kia_one (aDW c) X I e (fun z=>nomatch z) h
end
end SX
namespace SX
open PySem PySem.W
def qM(h:Heap)(vs:Array Value)(e:Addr)(T:Option Addr):Prop:=
 match T with
 | none=>vs[1]? = some .none
 | some t=>vs[1]? = some (.ref t)/\t≠e/\∃ oT ts x,h.get? t=some oT/\oT.data=.fields ts/\ts[3]? = some x
section
variable{M:Model}{A:Around}{E:Value->Shared->Prop}{s:Shared}
structure Noted(FL:List Addr)(e:Addr)(T:Option Addr)(C:Addr)(od:Option Addr)(h h':Heap)(T':Option Addr):Prop where
 keep:∀ b o,b∉FL->b≠e->(∀ t,T=some t->b≠t)->h.get? b=some o->h'.get? b=some o
 slot:∀ b o,b∈FL->h.get? b=some o->∃ sl,h'.get? b=some {o with slots:=sl}
 exc:∃ vs,h'.get? e=some ⟨.ref C,od,.fields vs,#[]⟩/\qM h' vs e T'
 new:(∃ t,T'=some t/\h.objs.size<=t)\/(T'=T/\T≠none)
 there:∀ t o,T=some t->h.get? t=some o->∃ o',h'.get? t=some o'
theorem aDX{base:Heap}{env:Env}{outer:List Env}{L e C:Addr}{od:Option Addr}{vs:Array Value}{T:Option Addr}{Q:Unit->Shared->Prop}
  (hfr:A.frames=some (env::outer)) (hl:s.heap.FunFrames base (env::outer)) (hf:env.frame=some L) (he:s.heap.get? e=some ⟨.ref C,od,.fields vs,#[]⟩) (ht:qM s.heap vs e T)
  (h:∀ h' T',T'≠none->Noted ((env::outer).filterMap (·.frame)) e T C od s.heap h' T'->Q () {s with heap:=h'}) :
  wpAny M A (noteFrame (.ref e) env) Q E s:=by
 have frF:∀ b∈(env::outer).filterMap (·.frame),∃ o,s.heap.get? b=some o/\∀ vs,o.data≠.fields vs:=fun b hb=>(hl.mem hb).2
 have hene:e∉(env::outer).filterMap (·.frame):=fun hm=>by
  obtain ⟨o,ho,hnf⟩:=frF e hm
  rw[he] at ho;injection ho with ho;subst ho;exact hnf vs rfl
 have h1s:1 < vs.size:=by
  unfold qM at ht
  cases T with
  | none=>exact (Array.getElem?_eq_some_iff.mp ht).1
  | some t=>exact (Array.getElem?_eq_some_iff.mp ht.1).1
 have make:∀ (hp:Heap) (head:Value) (hadNext:Bool),hp.FunFrames base (env::outer)->hp.objs.size=s.heap.objs.size->hp.get? e=some ⟨.ref C,od,.fields vs,#[]⟩->
   (∀ b o,(∀ t,T=some t->b≠t)->s.heap.get? b=some o->hp.get? b=some o)->(∀ t o,T=some t->s.heap.get? t=some o->∃ o',hp.get? t=some o'/\t∉(env::outer).filterMap (·.frame)/\t≠e)->
   wpAny M A (do let a <-frameOf env;let pl <-entryPlaceOf L hadNext;let b <-EntryCells.newEntry head a .none (rawInt L) .none pl;setField (.ref e) 1 b) Q E {s with heap:=hp}:=by
  intro hp head hadNext hlp hsz hep kp tp
  refine wpAny_bind (wpAny_frameOf_fun (s:={s with heap:=hp}) hfr hlp hf fun h₁ hs₁=>?_)
  refine wpAny_bind (wpAny_entryPlaceOf fun pl hpl=>?_)
  unfold EntryCells.newEntry newFields
  refine wpAny_bind (wpAny_newObj_type ?_ (hpl.sizeOk5 _ _ _ _ _))
  have he₁:h₁.get? e=some ⟨.ref C,od,.fields vs,#[]⟩:=(hs₁.2.1 e hene).trans hep
  have he₂:=Heap.get?_push_of_some (h:=h₁) {cls:=.type "traceback",dict:=none,data:=.fields ([head,.ref L,.none,rawInt L,.none]++(if pl.isEmpty then List.replicate 6 Value.none else pl)).toArray} he₁
  refine wpAny_setField he₂ rfl h1s ?_
  have hTe:h₁.objs.size≠e:=Nat.ne_of_gt (Heap.lt_size he₁)
  have he₃:=Heap.get?_update_self (Obj.mapFields (·.setIfInBounds 1 (Value.ref h₁.objs.size))) he₂ rfl
  have hT₃:=(Heap.get?_update_other (h₁.push {cls:=.type "traceback",dict:=none,data:=.fields ([head,.ref L,.none,rawInt L,.none]++(if pl.isEmpty then List.replicate 6 Value.none else pl)).toArray})
   (Obj.mapFields (·.setIfInBounds 1 (Value.ref h₁.objs.size))) (Ne.symm hTe)).trans (Heap.get?_push_size h₁ rfl)
  have keep:∀ b o,b≠e->h₁.get? b=some o->
    ((h₁.push {cls:=.type "traceback",dict:=none,data:=.fields ([head,.ref L,.none,rawInt L,.none]++(if pl.isEmpty then List.replicate 6 Value.none else pl)).toArray}).update e (Obj.mapFields (·.setIfInBounds 1 (Value.ref h₁.objs.size)))).get? b=some o:=
   fun b o hbe hb=>by
    rw[Heap.get?_update_other _ _ (Ne.symm hbe)]
    exact Heap.get?_push_of_some _ hb
  refine h _ (some h₁.objs.size) (by simp) ⟨fun b o hb hbe hbt q=>?_,fun b o hb q=>?_,⟨vs.setIfInBounds 1 (.ref h₁.objs.size),?_,?_⟩,.inl ⟨_,rfl,by rw[hs₁.1,hsz];exact Nat.le_refl _⟩,fun t o e1 e2=>?_⟩
  ·exact keep b o hbe ((hs₁.2.1 b hb).trans (kp b o hbt q))
  ·have hbt:∀ t,T=some t->b≠t:=fun t e1 z=>by
    obtain ⟨o',q',z2,_⟩:=tp t o e1 (z▸q)
    exact z2 (z▸hb)
   obtain ⟨sl,q'⟩:=hs₁.2.2 b o (kp b o hbt q)
   exact ⟨sl,keep b _ (fun z=>hene (z▸hb)) q'⟩
  ·exact he₃
  ·refine ⟨by simp[h1s],hTe,_,_,rawInt L,hT₃,rfl,by first|(simp;done)|(rcases hpl with rfl|⟨_,_,_,_,_,_,_,rfl⟩<;>simp)⟩
  ·obtain ⟨o',q',z2,z3⟩:=tp t o e1 e2
   exact ⟨o',keep t o' z3 ((hs₁.2.1 t z2).trans q')⟩
 unfold noteFrame
 simp only[hf]
 cases T with
 | none=>
  refine wpAny_bind (wpAny_field he rfl ht ?_)
  rw[if_neg (by decide)]
  exact make s.heap .none _ hl rfl he (fun b o _ q=>q) (fun t o e1=>nomatch e1)
 | some t=>
  obtain ⟨ht1,hte,oT,ts,x,hT,hdT,h3⟩:=ht
  have tFL:t∉(env::outer).filterMap (·.frame):=fun hm=>by
   obtain ⟨o,ho,hnf⟩:=frF t hm
   rw[hT] at ho;injection ho with ho;subst ho;exact hnf ts hdT
  refine wpAny_bind (wpAny_field he rfl ht1 ?_)
  rw[if_pos (show (Value.ref t != Value.none)=true from by simp)]
  refine wpAny_bind (wpAny_field hT hdT h3 ?_)
  by_cases hx:(x == rawInt L)=true
  ·rw[if_pos hx]
   refine wpAny_pure (h s.heap (some t) (by simp) ⟨fun b o _ _ _ q=>q,fun b o _ q=>⟨o.slots,q⟩,⟨vs,he,ht1,hte,oT,ts,x,hT,hdT,h3⟩,.inr ⟨rfl,by simp⟩,fun t' o e1 q=>⟨o,q⟩⟩)
  ·rw[if_neg hx]
   refine wpAny_bind (wpAny_setField hT hdT (Array.getElem?_eq_some_iff.mp h3).1 ?_)
   have other:∀ b,b≠t->(s.heap.update t (Obj.mapFields (·.setIfInBounds 3 Value.none))).get? b=s.heap.get? b:=fun b hb=>Heap.get?_update_other _ _ (Ne.symm hb)
   have hT':=Heap.get?_update_self (Obj.mapFields (·.setIfInBounds 3 Value.none)) hT (Obj.isFreed_of_fields (Obj.data_mapFields hdT _))
   refine make (s.heap.update t (Obj.mapFields (·.setIfInBounds 3 Value.none))) _ _ (hl.of_keeps fun b o hb hnf=>⟨o,(other b fun q=>?_).trans hb,rfl⟩) (Heap.SameBut.update ..).1 ((other e (Ne.symm hte)).trans he) (fun b o hb q=>(other b (hb t rfl)).trans q) (fun t' o e1 q=>?_)
   ·rw[q,hT] at hb;injection hb with hb;subst hb;exact hnf ts hdT
   ·cases e1
    exact ⟨_,hT',tFL,hte⟩
theorem aAA{e C t:Addr}{od:Option Addr}{vs:Array Value}{fr:Option Addr}{Q:Unit->Shared->Prop}(he:s.heap.get? e=some ⟨.ref C,od,.fields vs,#[]⟩)(ht:qM s.heap vs e (some t))
  (h:∀ h',Heap.SameBut t s.heap h'->qM h' vs e (some t)->Q () {s with heap:=h'}):wpAny M A (setFlight (.ref e) fr) Q E s:=by
 obtain ⟨ht1,hte,oT,ts,x,hT,hdT,h3⟩:=ht
 unfold setFlight
 refine wpAny_bind (wpAny_field he rfl ht1 ?_)
 rw[if_pos (show (Value.ref t != Value.none)=true from by simp)]
 have hsz:=(Array.getElem?_eq_some_iff.mp h3).1
 refine wpAny_setField hT hdT hsz (h _ (Heap.SameBut.update ..) ⟨ht1,hte,_,_,_,Heap.get?_update_self _ hT (Obj.isFreed_of_fields (Obj.data_mapFields hdT _)),Obj.data_mapFields hdT _,Array.getElem?_setIfInBounds_self_of_lt hsz⟩)
end
end SX
namespace L2
open PySem PySem.Spec PyProof.Rows
def ExN(e C:Addr)(od:Option Addr):HO:=.ext fun h=>∃ vs,h.get? e=some ⟨.ref C,od,.fields vs,#[]⟩/\vs[1]? = some .none
def ExO(e C:Addr)(od:Option Addr):HO:=.ext fun h=>∃ vs,h.get? e=some ⟨.ref C,od,.fields vs,#[]⟩
section
variable{P:Program}{w:World}{H:Hp}{h:Heap}{e C:Addr}{od:Option Addr}
theorem aBS{vs:Array Value}(a:h.get? e=some ⟨.ref C,od,.fields vs,#[]⟩)(b:vs[1]? = some .none):cR P w H h e (ExN e C od):=
 ⟨⟨vs,a,b⟩,⟨_,a⟩,fun h1 h2 ⟨vs,a,b⟩ k=>⟨vs,k _ a,b⟩⟩
theorem aBT{vs:Array Value}(a:h.get? e=some ⟨.ref C,od,.fields vs,#[]⟩):cR P w H h e (ExO e C od):=
 ⟨⟨vs,a⟩,⟨_,a⟩,fun h1 h2 ⟨vs,a⟩ k=>⟨vs,k _ a⟩⟩
theorem wI(ok:HOk P w H h)(q:H e=some (ExN e C od)):∃ vs,h.get? e=some ⟨.ref C,od,.fields vs,#[]⟩/\vs[1]? = some .none:=(ok e _ q).1
theorem aBU(ok:HOk P w H h)(q:H e=some (ExO e C od)):∃ vs,h.get? e=some ⟨.ref C,od,.fields vs,#[]⟩:=(ok e _ q).1
end
structure FlyAt(X:Cx)(H:Hp)(h:Heap)(e C:Addr)(od:Option Addr)(traced:Bool):Prop where
 tr:H e=some (ExO e C od)
 tb:∃ vs T,h.get? e=some ⟨.ref C,od,.fields vs,#[]⟩/\SX.qM h vs e T/\(∀ t,T=some t->H t=none/\X.s₀.heap.objs.size<=t/\∀ p∈X.pn,p.1≠t)/\(traced=true->T≠none)
def Fly(X:Cx)(E:XK)(ev:Value)(s':Shared):Prop:=∃ e C od σ H',ev=.ref e/\Inv X [] σ H' s'/\FlyAt X H' s'.heap e C od false/\E (.ref C) (some e) H'
abbrev Cx.fly(X:Cx)(E:XK):Cx:=X.wish (Fly X E)
def aAB(X:Cx):Prop:=X.stack=X.env::X.outer/\X.env.frame=some X.env.locals
section
variable{X:Cx}{σ:St}{H:Hp}{s:Shared}{e C:Addr}{od:Option Addr}{b:Bool}
theorem wJ(I:Inv X [] σ H s){t:Addr}{oT:Obj}{ts:Array Value}(hT:s.heap.get? t=some oT)(hd:oT.data=.fields ts):t≠X.env.locals/\(∀ x c,X.env.cells.lookup x=some c->c≠t):=by
 refine ⟨fun z=>?_,fun x c q z=>?_⟩
 ·obtain ⟨m,⟨o,es,ep,ho,hd',_⟩,_⟩:=I.loc
  rw[<-z,hT] at ho;cases ho;rw[hd] at hd';cases hd'
 ·obtain ⟨v,o,ho,hd'⟩:=I.cell x c q
  rw[z,hT] at ho;cases ho;rw[hd] at hd';cases hd'
theorem wK{Q:Unit->Shared->Prop}{E':Value->Shared->Prop}(hO:aAB X)(I:Inv X [] σ H s)(f:FlyAt X H s.heap e C od b)(h:∀ s',Inv X [] σ H s'->FlyAt X H s'.heap e C od true->Q () s') :
  wpAny (model X.prog X.w) X.A (noteFrame (.ref e) X.env) Q E' s:=by
 obtain ⟨hst,hfm⟩:=hO
 obtain ⟨vs,T,he,ht,hT,_⟩:=f.tb
 have hfr:X.A.frames=some (X.env::X.outer):=by rw[<-hst];exact I.ok.frames
 have hl:s.heap.FunFrames X.base (X.env::X.outer):=by have:=I.stack;rw[hst] at this;exact this
 have hFL:(X.env::X.outer).filterMap (·.frame)=X.env.locals::X.fs:=by rw[List.filterMap_cons,hfm];rfl
 refine SX.aDX (T:=T) hfr hl hfm he ht fun h' T' hT' N=>?_
 rw[hFL] at N
 have trk:∀ c u,H c=some u->c∉X.env.locals::X.fs:=fun c u q z=>by
  have:=I.stkFree c (by unfold frs;rw[hst,hFL];exact z)
  rw[q] at this;cases this
 have nT:∀ c u,H c=some u->∀ t,T=some t->c≠t:=fun c u q t e1 z=>by
  have:=(hT t e1).1
  rw[<-z,q] at this;cases this
 have hok':HOk X.prog X.w H h':=fun c u q=>by
  by_cases hc:c=e
  ·subst hc
   rw[f.tr] at q;cases q
   obtain ⟨vs',q',_⟩:=N.exc
   exact aBT q'
  ·refine (I.hok c u q).stay (fun c' v hc' q'=>N.keep c' v ?_ ?_ ?_ q') (fun _ q=>q) (fun _ _ q=>q) fun _ _ q=>q
   ·rcases hc' with z|z
    ·rw[z];exact trk c u q
    ·exact trk c' _ z
   ·rcases hc' with z|z
    ·rw[z];exact hc
    ·intro zz;rw[zz,f.tr] at z;cases z
   ·rcases hc' with z|z
    ·rw[z];exact nT c u q
    ·exact nT c' _ z
 have I':Inv X [] σ H {s with heap:=h',gens:=s.gens,drawn:=s.drawn,toks:=s.toks}:=by
  refine I.step (ch:=T.toList) (fun c hc=>?_) (fun c o h1 h2 h3 q n=>?_) (fun c o h1 h2 h3 q n=>N.slot c o (List.mem_cons_of_mem _ h2) q) (fun _ _ _ _ n=>n) (fun c o h3 q=>?_) (fun _ _ q=>q) (fun _ _ _ q=>q) (fun _ _ q=>q) (fun m hm=>?_) hok' I.bare
  ·have e1:T=some c:=by cases T<;>simp at hc;rw[hc]
   obtain ⟨t1,t2,t3⟩:=hT c e1
   rw[e1] at ht
   obtain ⟨_,_,oT,ts,x,hTo,hTd,_⟩:=ht
   obtain ⟨a1,a2⟩:=wJ I hTo hTd
   exact ⟨.inr t2,a1,a2,fun p hp=>t3 p (by simpa using hp)⟩
  ·refine N.keep c o ?_ ?_ ?_ q
   ·intro z
    rcases List.mem_cons.mp z with z|z
    ·exact h1 z
    ·exact h2 z
   ·intro z;rw[z,f.tr] at n;cases n
   ·intro t e1 z;exact h3 (by rw[e1,z];simp)
  ·by_cases hc:c=e
   ·subst hc
    obtain ⟨vs',q',_⟩:=N.exc
    exact ⟨_,q'⟩
   ·by_cases hF:c∈X.env.locals::X.fs
    ·obtain ⟨sl,q'⟩:=N.slot c o hF q
     exact ⟨_,q'⟩
    ·exact ⟨o,N.keep c o hF hc (fun t e1 z=>h3 (by rw[e1,z];simp)) q⟩
  ·obtain ⟨o,es,ep,ho,r⟩:=hm
   obtain ⟨sl,q'⟩:=N.slot _ o List.mem_cons_self ho
   exact ⟨_,es,ep,q',r⟩
 refine h _ I' ⟨f.tr,?_⟩
 obtain ⟨vs',q',t'⟩:=N.exc
 refine ⟨vs',T',q',t',fun t e1=>?_,fun _=>hT'⟩
 rcases N.new with ⟨t2,e2,hle⟩|⟨e2,_⟩
 ·rw[e1] at e2;cases e2
  refine ⟨I.hok.fresh hle,Nat.le_trans I.sz hle,fun p hp z=>?_⟩
  have:=Heap.lt_size (I.pin p (List.mem_append_left _ hp)).1
  rw[z] at this
  exact absurd (Nat.lt_of_lt_of_le this hle) (Nat.lt_irrefl _)
 ·exact hT t (e2▸e1)
theorem yQ{Q:Unit->Shared->Prop}{E':Value->Shared->Prop}{fr:Option Addr}{A:Around}(I:Inv X [] σ H s)(f:FlyAt X H s.heap e C od true)(h:∀ s',Inv X [] σ H s'->FlyAt X H s'.heap e C od true->Q () s') :
  wpAny (model X.prog X.w) A (setFlight (.ref e) fr) Q E' s:=by
 obtain ⟨vs,T,he,ht,hT,hn⟩:=f.tb
 cases T with
 | none=>exact absurd rfl (hn rfl)
 | some t=>
  obtain ⟨t1,t2,t3⟩:=hT t rfl
  refine SX.aAA he ht fun h' sb ht'=>?_
  obtain ⟨_,hte,oT,ts,x,hTo,hTd,_⟩:=ht
  obtain ⟨a1,a2⟩:=wJ I hTo hTd
  have I':Inv X [] σ H {s with heap:=h'}:=I.turned (t':=s.toks) (it:=t) (fun b o hb q=>(sb.2 b hb).trans q) t1 a1 (.inr t2) a2 fun p hp=>t3 p (by simpa using hp)
  exact h _ I' ⟨f.tr,vs,some t,(sb.2 e (Ne.symm hte)).trans he,ht',fun t' e1=>by cases e1;exact ⟨t1,t2,t3⟩,fun _=>by simp⟩
theorem aBV{Q:Value->Shared->Prop}{E':Value->Shared->Prop}{A:Around}(f:FlyAt X H s.heap e C od true)(h:∀ t,Q (.ref t) s):wpAny (model X.prog X.w) A (field (.ref e) 1) Q E' s:=by
 obtain ⟨vs,T,he,ht,hT,hn⟩:=f.tb
 cases T with
 | none=>exact absurd rfl (hn rfl)
 | some t=>exact wpAny_field he rfl ht.1 (h t)
theorem gY{E:XK}(hO:aAB X):PassesOwn (model X.prog X.w) X.A X.env (Fly X E):=by
 rintro ev s' ⟨e,C,od,σ,H,rfl,I,f,q⟩
 refine wK hO I f fun s2 I2 f2=>?_
 unfold cameBackBy
 refine wpAny_bind (aBV f2 fun t=>?_)
 rw[if_neg (by simp)]
 exact yQ I2 f2 fun s3 I3 f3=>⟨e,C,od,σ,H,rfl,I3,⟨f3.tr,let ⟨vs,T,a,b,c,_⟩:=f3.tb;⟨vs,T,a,b,c,fun z=>nomatch z⟩⟩,q⟩
end
def CXe(P:Program)(w:World):CXT:=fun outer H s E ev s'=>∃ e C od H',ev=.ref e/\s'.os=s.os/\AllBare s'.gens/\Un (frs outer) [] H H' s.heap s'.heap/\HOk P w H' s'.heap/\H' e=some (ExO e C od) /\
 (∃ vs T,s'.heap.get? e=some ⟨.ref C,od,.fields vs,#[]⟩/\SX.qM s'.heap vs e T/\∀ t,T=some t->H' t=none/\s.heap.objs.size<=t)/\E (.ref C) (some e) H'
section
variable{X:Cx}
theorem cG{E E':XK}(hE:∀ c e H,E c e H->E' c e H):iC (CXe X.prog X.w) (X.fly E') E:=by
 rintro pins σ H s ev s' I ⟨e,C,od,H',rfl,os,bare,un,hok,he,⟨vs,T,q1,q2,q3⟩,q⟩
 have I0:Inv X pins σ H s:=I.unwish
 have I1:Inv X [] σ H s:=I0.pins_of fun p hp=>absurd hp (by simp)
 have I2:Inv X [] σ H' s':=I1.call' os un hok bare (fun b hb=>absurd hb (by simp))
 refine ⟨e,C,od,σ,H',rfl,I2,⟨he,vs,T,q1,q2,fun t e1=>?_,fun z=>nomatch z⟩,hE _ _ _ q⟩
 obtain ⟨t1,t2⟩:=q3 t e1
 refine ⟨t1,Nat.le_trans I0.sz t2,fun p hp z=>?_⟩
 have:=Heap.lt_size (I0.pin p (List.mem_append_left _ hp)).1
 rw[z] at this
 exact absurd (Nat.lt_of_lt_of_le this t2) (Nat.lt_irrefl _)
theorem PSs.unfly{E:XK}{st:List Stmt}{t:TS}(h:PSs (X.fly E) st t)(hx:∀ e s',Fly X E e s'->X.xe e s'):PSs X st t:=fun pins s σ H D I hw=>
 wpAny_mono (h pins s σ H D (I.wish _) hw) (fun f s' q=>SP.unwish q) hx
end
theorem aBW{P:Program}{w:World}{K:Frag}{mg:Str->Option Value}{base:Heap}{N:List Str}{qual:Str}{scope:Scope}{f:Addr}{cd:Value}{A:Around}{outer:List Env}{s:Shared}{H:Hp}{E:XK}{ev:Value}{s':Shared}
  (h:Fly (iH (CXe P w) P w K mg base N qual scope f cd A outer s H E) E ev s'):(iH (CXe P w) P w K mg base N qual scope f cd A outer s H E).xe ev s':=by
 obtain ⟨e,C,od,σ,H',rfl,I,fl,q⟩:=h
 show wpAny (model P w) _ (leaving _ (.ref e)) _ _ s'
 unfold leaving
 have hO:aAB (iH (CXe P w) P w K mg base N qual scope f cd A outer s H E):=⟨rfl,rfl⟩
 refine wpAny_bind (wK hO I fl fun s2 I2 f2=>yQ I2 f2 fun s3 I3 f3=>?_)
 obtain ⟨vs,T,a,b,c,_⟩:=f3.tb
 exact ⟨e,C,od,H',rfl,I3.os,I3.bare,I3.base,I3.hok,f3.tr,⟨vs,T,a,b,fun t e1=>⟨(c t e1).1,(c t e1).2.1⟩⟩,q⟩
section
variable{P:Program}{w:World}{K:Frag}{mg:Str->Option Value}{base:Heap}
theorem Fun.okX{x qual:Str}{st:Stmt}{f:Addr}{fd:FuncData}{N ps:List Str}{k:Nat}{sp:Sp}(F:Fun K x qual st f fd)(S:FnScope N ps (aL st))(len:∀ vs H Q E,sp vs H Q E->vs.length=ps.length)
  (hbody:∀ (cdv:Value) (A:Around) (outer:List Env) (s:Shared) (H:Hp) (vs:List V) (Q:VK) (E:XK),Room k (A.deeper (envOfC qual (aL st) s.heap.objs.size f cdv))->sp vs H Q E->
   ∃ t,PSs ((iH (CXe P w) P w K mg base N qual (aL st) f cdv A outer s H E).fly E) (b5 st) t/\t {nx:=fun _ H'=>Q .non H',rt:=Q} (start N vs) H):FnOk P w K mg base (CXe P w) (k+1) f fd ps sp:=by
 obtain ⟨oc,od,kV,doc,pm,an,cdv,ct,osl,rfl,lk,hcd⟩:=F.ex
 refine aFL lk hcd S len fun A outer s H vs Q E hr hsp=>?_
 obtain ⟨t,h,q⟩:=hbody cdv A outer s H vs Q E hr hsp
 exact ⟨t,h.unfly fun _ _ z=>aBW z,q⟩
end
end L2
namespace L2
open PySem PySem.Spec PyProof.Rows
theorem Inv.xdw{X:Cx}{pins:List (Addr×Obj)}{σ:St}{H:Hp}{s:Shared}{h':Heap}{d:Addr}{fs fs':List (Str×V)}{t':Nat}(I:Inv X pins σ H s)(hd:H d=some (.xd fs))(sb:Heap.SameBut d s.heap h')
  (new:cR X.prog X.w (upd H d (.xd fs')) h' d (.xd fs')):Inv X pins σ (upd H d (.xd fs')) {s with heap:=h',toks:=t'}:=by
 have nd:∀ b (u:Obj),H b=none->b≠d:=fun b u e z=>by rw[z,hd] at e;cases e
 refine I.un ⟨fun b o q n _ _=>(sb.2 b (nd b o n)).trans q,fun b o q n hb=>?_,fun b o q n _=>by rw[aK (nd b o n)];exact n,fun b o q _=>?_,fun b xs q=>?_,fun b o u q=>?_,fun b ps q=>?_⟩ fun b u q=>?_
 ·exact fun _=>⟨o.slots,(sb.2 b (nd b o n)).trans q⟩
 ·by_cases z:b=d
  ·obtain ⟨o',e⟩:=(show ∃ o',h'.get? d=some o' from let ⟨mA,⟨o,_,_,e,_⟩,_⟩:=new;⟨o,e⟩)
   exact ⟨o',z▸e⟩
  ·exact ⟨o,(sb.2 b z).trans q⟩
 ·rw[aK (fun z=>by rw[z,hd] at q;cases q)];exact q
 ·rw[aK (fun z=>by rw[z,hd] at q;cases q)];exact q
 ·rw[aK (fun z=>by rw[z,hd] at q;cases q)];exact q
 ·by_cases z:b=d
  ·subst z;rw[aW] at q;cases q;exact new
  ·rw[aK z] at q
   refine (I.hok b u q).stay (fun c v hc r=>(sb.2 c ?_).trans r) (fun c r=>?_) (fun c xs r=>?_) fun c xs r=>?_
   ·rcases hc with z2|z2
    · rw [z2]; exact z
    · intro z3; rw [z3, hd] at z2; cases z2
   ·rw[aK (fun z3=>by rw[z3,hd] at r;cases r)];exact r
   ·rw[aK (fun z3=>by rw[z3,hd] at r;cases r)];exact r
   ·rw[aK (fun z3=>by rw[z3,hd] at r;cases r)];exact r
def aK4(K:Frag)(ta tv:TE)(f:Str):TS:=fun D σ H=>tv σ H fun y H1=>ta σ H1 fun x H2=>∃ a W C,x=.ref a/\SX.ExcC K W C/\PySem.W.findIn K (.ref C) f=some none /\
 ((H2 a=some (ExN a C none)/\∀ d,H2 d=none->d≠a->D.nx σ (upd (upd H2 a (ExN a C (some d))) d (.xd [(f,y)]))) \/
  (∃ d fs,H2 a=some (ExN a C (some d))/\H2 d=some (.xd fs)/\fs.length < 1000/\D.nx σ (upd H2 d (.xd (gF f y fs)))))
section
variable{X:Cx}{o e value:Expr}{f:Str}{pos pos':Pos}{ta tv:TE}
theorem aBX{fs:List (Str×V)}{mA:Str->Option Value}(r:∀ f,f6 (fs.lookup f) (mA f)):PySem.Within mA (fs.map (·.1)):=fun y hy=>by
 cases q:fs.lookup y with
 | none=>exact absurd (f6.none_of (by rw[<-q];exact r y)) hy
 | some v=>exact List.mem_map.mpr ⟨(y,v),PySem.mem_of_lookup q,rfl⟩
theorem aGR(ha:PE X o ta)(hv:PE X value tv)(hs:swapsWith value (some (.Attribute o f pos')) pos.line X.env=pure false):PS X (.Assign [.Attribute o f pos'] value pos) (aK4 X.K ta tv f):=by
 intro pins s σ H D I h
 refine plainObj_wpAny_Assign_Attribute (thn (hv pins s σ H _ I h) fun u s1 ⟨y,H1,I1,ry,q⟩=>thn (ha pins s1 σ H1 _ I1 q) fun ov s2 zz0=>?_) hs
 obtain ⟨x,H2,I2,rx,a,W,C,ex,c,n,q2⟩:=zz0
 subst ex
 obtain rfl:ov=Value.ref a:=rx
 rcases q2 with ⟨ea,q2⟩|⟨d,fs,ea,ed,hl,q2⟩
 ·obtain ⟨vs,hx,h1⟩:=wI I2.hok ea
  refine SX.aBQ I2.kIn c n hx fun h' tk' hx' hns kp=>?_
  have fd:H2 s2.heap.objs.size=none:=I2.hok.fresh (Nat.le_refl _)
  have ne:s2.heap.objs.size≠a:=Nat.ne_of_gt (Heap.lt_size hx)
  refine ⟨σ,_,?_,q2 s2.heap.objs.size fd ne⟩
  have nea:∀ b (u:Obj),H2 b=none->b≠a:=fun b u z zz=>by rw[zz,ea] at z;cases z
  have ned:∀ b u,H2 b=some u->b≠s2.heap.objs.size:=fun b u z=>cN z fd
  have hokA:HOk X.prog X.w (upd (upd H2 a (ExN a C (some s2.heap.objs.size))) s2.heap.objs.size (.xd [(f,y)])) h':=fun b u z=>by
   by_cases hb:b=s2.heap.objs.size
   ·subst hb;rw[aW] at z;cases z
    refine ⟨_,hns,fun g=>?_⟩
    show f6 (List.lookup g [(f,y)]) (if g=f then some u else none)
    rw[List.lookup_cons]
    by_cases hg:g=f
    ·subst hg;rw[if_pos rfl];simp only[beq_self_eq_true];exact ry
    ·rw[if_neg hg,beq_false_of_ne hg];exact True.intro
   ·rw[aK hb] at z
    by_cases hb2:b=a
    ·subst hb2;rw[aW] at z;cases z
     exact aBS hx' h1
    ·rw[aK hb2] at z
     refine (I2.hok b u z).stay (fun c' v hc r=>kp c' v ?_ r) (fun c' r=>?_) (fun c' xs r=>?_) fun c' xs r=>?_
     ·rcases hc with z2|z2
      · rw [z2]; exact hb2
      · intro z3; rw [z3, ea] at z2; cases z2
     ·rw[aK (ned c' _ r),aK (fun z3=>by rw[z3,ea] at r;cases r)];exact r
     ·rw[aK (ned c' _ r),aK (fun z3=>by rw[z3,ea] at r;cases r)];exact r
     ·rw[aK (ned c' _ r),aK (fun z3=>by rw[z3,ea] at r;cases r)];exact r
  refine I2.un (t':=tk') ⟨fun b ob q n _ _=>kp b ob (nea b ob n) q,fun b ob q n _ _=>⟨ob.slots,kp b ob (nea b ob n) q⟩,fun b ob q n _=>by rw[aK (Nat.ne_of_lt (Heap.lt_size q)),aK (nea b ob n)];exact n,fun b ob q _=>?_,fun b xs q=>?_,fun b ob u' q=>?_,fun b ps q=>?_⟩ hokA
  ·by_cases z:b=a
   ·subst z;exact ⟨_,hx'⟩
   ·exact ⟨ob,kp b ob z q⟩
  ·rw[aK (ned b _ q),aK (fun z3=>by rw[z3,ea] at q;cases q)];exact q
  ·rw[aK (ned b _ q),aK (fun z3=>by rw[z3,ea] at q;cases q)];exact q
  ·rw[aK (ned b _ q),aK (fun z3=>by rw[z3,ea] at q;cases q)];exact q
 ·obtain ⟨vs,hx,h1⟩:=wI I2.hok ea
  obtain ⟨mA,hns,r⟩:=(show cR X.prog X.w H2 s2.heap d (.xd fs) from I2.hok d _ ed)
  have ne:d≠a:=fun z=>by rw[z,ea] at ed;cases ed
  refine SX.aDV (ns:=fs.map (·.1)) I2.kIn c n hx ne hns (aBX r) (by rw[List.length_map,sizeLine_eq];omega) fun h' tk' hns' sb=>?_
  refine ⟨σ,_,I2.xdw (t':=tk') ed sb ⟨_,hns',fun g=>?_⟩,q2⟩
  show f6 ((gF f y fs).lookup g) (if g=f then some u else mA g)
  rw[l5]
  by_cases q:g=f
  ·rw[if_pos q,if_pos q];exact ry
  ·rw[if_neg q,if_neg q];exact r g
end
inductive TyX(K:Frag)(H:Hp):V->Value->Prop where
 | pl {x:V} {t:Value} (h:TyOf K H x t):TyX K H x t
 | exc {a W C:Addr} {d:Addr} {fs:List (Str×V)} (c:SX.ExcC K W C) (e:H a=some (ExO a C (some d))) (ed:H d=some (.xd fs)):TyX K H (.ref a) (.ref C)
 | exc0 {a W C:Addr} (c:SX.ExcC K W C) (e:H a=some (ExO a C none)):TyX K H (.ref a) (.ref C)
def aAC:V->Option Value
 | .ty n=>some (.type n)
 | .ref a=>some (.ref a)
 | _=>none
theorem sP{x:V}{u v:Value}(h:aAC x=some v)(r:bH x u):u=v:=by
 cases x with
 | ty n=>cases h;exact r
 | ref a=>cases h;exact r
 | _=>cases h
theorem jX{X:Cx}:iU X (.builtin "isinstance") (fun xs H Q=>∃ x c t cv b,xs=[x,c]/\TyX X.K H x t/\aAC c=some cv/\PySem.W.kitOne X.K t cv=some b/\Q (.bl b) H):=by
 intro pins s σ H xs us Q I r h
 obtain ⟨x,c,t,cv,b,rfl,ty,hc,e,q⟩:=h
 obtain ⟨u,v,rfl,ru,rv⟩:=vH r
 obtain rfl:=sP hc rv
 cases ty with
 | pl ty=>exact aBI I ru ty e fun tk=>⟨.bl b,H,I.tok _,rfl,q⟩
 | @exc a W C d fs cc ea ed=>
  cases (show u=Value.ref a from ru)
  obtain ⟨vs,hx⟩:=aBU I.hok ea
  obtain ⟨mA,hns,r⟩:=(show cR X.prog X.w H s.heap d (.xd fs) from I.hok d _ ed)
  obtain ⟨od,hod,_⟩:=oI hns
  exact SX.rF (o:=some od) I.kIn cc ⟨hx,rfl,rfl,hod⟩ e fun tk=>⟨.bl b,H,I.tok _,rfl,q⟩
 | @exc0 a W C cc ea=>
  cases (show u=Value.ref a from ru)
  obtain ⟨vs,hx⟩:=aBU I.hok ea
  exact SX.rF (o:=none) I.kIn cc ⟨hx,rfl,rfl,True.intro⟩ e fun tk=>⟨.bl b,H,I.tok _,rfl,q⟩
def wL(C:Addr)(spI:Sp)(E:XK)(ta:TA):TS:=fun _ σ H=>ta σ H fun vs H1=>vs.length<=1000/\∀ e,H1 e=none->
 spI (.ref e::vs) (upd H1 e (ExN e C none)) (fun v H2=>v=.non/\∃ od,H2 e=some (ExN e C od)/\E (.ref C) (some e) (upd H2 e (ExO e C od))) E0
section
variable{X:Cx}{E:XK}{W C fI:Addr}{fdI:FuncData}{ps:List Str}{spI:Sp}{k:Nat}{x:Str}{np cpos pos:Pos}{e0:Expr}{rest:List Expr}{ta:TA}
theorem qN(hc:X.calm=true)(c:SX.ExcC X.K W C)(hg:Gl X x)(hm:X.mg x=some (.ref C))(FI:FnOk X.prog X.w X.K X.mg X.base CX0 k fI fdI ps spI)(hi:PySem.W.findIn X.K (.ref C) "__init__"=some (some (.ref fI)))
  (hf:PySem.W.typeIn X.K (.ref fI)=some (.type "function")) (hb:cS X.K fdI ps []) (hr:Room (k+1) X.A) (ha:PA (X.fly E) (e0::rest) ta) (hdb:(x == ("__debug__":Str))=false:=by decide)
  (he:starEach (e0::rest) X.env=(false,eval e0 X.env)::starEach rest X.env:=by rfl) (hpl:(backTo cpos (starEach rest X.env)).any (·.1)=false:=by rfl) :
  PS (X.fly E) (.Raise (some (.Call (.Name x np) (e0::rest) [] cpos)) none pos) (wL C spI E ta):=by
 intro pins s σ H D I h
 obtain ⟨nm,q,N,bs,sn,sub,ab,col,dd,k0,k1,k2,k3,k5,lk⟩:=c.lk
 have core:wpAny (model X.prog X.w) X.A (eval (.Call (.Name x np) (e0::rest) [] cpos) X.env) (fun v s1=>∃ e od vs,v=.ref e/\s1.heap.get? C=some (excClassObj nm q C N bs (.ref W::SX.hV) true sn sub ab col dd k0 k1 k2 k3 k5 "ValueError.__new__") /\
   s1.heap.get? e=some {cls:=.ref C,dict:=od,data:=.fields vs}/\vs[1]? = some .none/\Fly X E (.ref e) s1) (Fly X E) s:=by
  refine wpAny_Call_Name_kw (pJ (X:=X) I.unwish hg hm ?_ hdb)
  refine PySem.W.callWith_K (h₀:=X.base) I.ok.mod.kin c.kp (thn (ha cpos pins s σ H _ I h) fun us s1 ⟨vs,H1,I1',r,hz,q1⟩=>⟨I1'.kIn,?_⟩) he hpl
  have I1:Inv X pins σ H1 s1:=I1'.unwish
  obtain ⟨hp,g,d,tk,os⟩:=s1
  have hz':us.length<=sizeLine:=by rw[<-r.length,sizeLine_eq];omega
  refine SX.aDT PySem.F.excBase_ValueError (SX.aDU W) I1.kIn (I1.kIn _ _ lk) hi hf (fun h' e hm' hle=>?_) hz'
  obtain ⟨t,het,_,_⟩:=hm'.there
  have I2:Inv X pins σ (upd H1 e (ExN e C none)) ⟨h',g,d,tk,os⟩:=I1.laid (t':=tk) hm'.keeps hle (aBS het rfl)
  have q2:=q1 e (I1.hok.fresh hle)
  have r2:bG (V.ref e::vs) (Value.ref e::us):=.cons rfl r
  have hl:(Value.ref e::us++[]).length=ps.length:=by
   have z:=r2.length
   rw[FI.len _ _ _ _ q2] at z
   rw[List.append_nil]
   exact z.symm
  have hl':(Value.ref e::us).length=ps.length:=by rw[List.append_nil] at hl;exact hl
  have bb:=hb ⟨h',g,d,tk,os⟩ (Value.ref e::us) I2.kIn hl
  rw[List.append_nil] at bb
  refine wpAny_call (codeAny_mono (FI.run _ X.stack ⟨h',g,d,tk,os⟩ _ ⟨Value.ref e::us,[]⟩ (Value.ref e::us) (V.ref e::vs) _ E0 (hr.make C us []) (I2.env0.make C us []) bb r2 q2) fun res s' hq=>?_)
  cases res with
  | error e=>exact False.elim hq
  | ok fl=>
   cases fl with
   | next=>exact False.elim hq
   | brk=>exact False.elim hq
   | cont=>exact False.elim hq
   | ret u=>
    obtain ⟨v,H3,I3,rv,ev,od,ee,q3⟩:=I2.after hq
    subst ev
    obtain ⟨vs',hx,h1⟩:=wI I3.hok ee
    refine ⟨rv,e,od,vs',rfl,I3.kIn _ _ lk,hx,h1,?_⟩
    have I4:Inv X pins σ (upd H3 e (ExO e C od)) {s' with heap:=s'.heap,toks:=s'.toks}:=I3.write (x:=e) (e:=e) (by rw[ee];exact True.intro) (.inl rfl) (fun b u _ z=>z) ⟨_,hx⟩ (aBT hx)
    have I5:Inv X [] σ (upd H3 e (ExO e C od)) s':=(show Inv X pins σ _ s' from I4).pins_of fun p hp=>absurd hp (by simp)
    exact ⟨e,C,od,σ,_,rfl,I5,⟨aW,vs',none,hx,h1,(fun t z=>nomatch z),(fun z=>nomatch z)⟩,q3⟩
 show wpAny (model X.prog X.w) X.A (exec (.Raise (some (.Call (.Name x np) (e0::rest) [] cpos)) none pos) X.env) _ (Fly X E) s
 rw[arm_exec_Raise]
 first
  | refine wpAny_bind (wpAny_standAt (SX.rE (SX.aDU W) (I.ok.hd hc) (wpAny_bind (wpAny_mono core (fun v s1 h1=>wpAny_bind (wpAny_standAt (wpAny_pure h1))) fun _ _ z=>z))))
  | (simp only[evalOpt,Option.map];refine wpAny_bind (wpAny_standAt (SX.rE (SX.aDU W) (I.ok.hd hc) (wpAny_bind (wpAny_mono core (fun v s1 h1=>wpAny_bind (wpAny_standAt (wpAny_pure h1))) fun _ _ z=>z)))))
end
end L2
namespace SX
open PySem PySem.W
structure ExcAny(K:Frag)(C:Addr)(bm:List Value):Prop where
 lk:∃ nm q N bs hd sn sub ab col dd k0 k1 k2 k3 k5 newId,K.lookup C=some (excClassObj nm q C N bs bm hd sn sub ab col dd k0 k1 k2 k3 k5 newId)
 base:bm.contains (.type "BaseException")=true
end SX
namespace L2
open PySem PySem.Spec PyProof.Rows
end L2
namespace L2
open PySem PySem.Spec PyProof.Rows
structure Blt(mg:Str->Option Value):Prop where
 b_len:mg "len"=none
 b_isinstance:mg "isinstance"=none
 b_all:mg "all"=none
 b_max:mg "max"=none
 b_min:mg "min"=none
 b_int:mg "int"=none
 b_str:mg "str"=none
 b_bool:mg "bool"=none
 b_tuple:mg "tuple"=none
 b_list:mg "list"=none
 b_range:mg "range"=none
 b_enumerate:mg "enumerate"=none
 b_ValueError:mg "ValueError"=none
structure DefAt(K:Frag)(mg:Str->Option Value)(x:Str)(st:Stmt)(ps:List Str):Prop where
 ex:∃ f fd,Fun K x x st f fd/\cS K fd ps []/\mg x=some (.ref f)
def Calls(P:Program)(w:World)(K:Frag)(mg:Str->Option Value)(base:Heap)(CX:CXT)(k:Nat)(x:Str)(ps:List Str)(sp:Sp):Prop:=
 ∃ f fd,FnOk P w K mg base CX k f fd ps sp/\cS K fd ps []/\mg x=some (.ref f)/\PySem.W.keepIn K (.ref f)=true
section
variable{P:Program}{w:World}{K:Frag}{mg:Str->Option Value}{base:Heap}{x:Str}{st:Stmt}{N ps:List Str}{k:Nat}{sp:Sp}
theorem DefAt.ok(D:DefAt K mg x st ps)(S:FnScope N ps (aL st))(len:∀ vs H Q E,sp vs H Q E->vs.length=ps.length)
  (hbody:∀ (f:Addr) (cdv:Value) (A:Around) (outer:List Env) (s:Shared) (H:Hp) (vs:List V) (Q:VK) (E:XK),Room k (A.deeper (envOfC x (aL st) s.heap.objs.size f cdv))->sp vs H Q E->
   ∃ t,PSs (iH CX0 P w K mg base N x (aL st) f cdv A outer s H E).nox (b5 st) t/\t {nx:=fun _ H'=>Q .non H',rt:=Q} (start N vs) H):Calls P w K mg base CX0 (k+1) x ps sp:=by
 obtain ⟨f,fd,F,b,m⟩:=D.ex
 exact ⟨f,fd,F.ok S len (hbody f),b,m,F.kp⟩
theorem DefAt.okX(D:DefAt K mg x st ps)(S:FnScope N ps (aL st))(len:∀ vs H Q E,sp vs H Q E->vs.length=ps.length)
  (hbody:∀ (f:Addr) (cdv:Value) (A:Around) (outer:List Env) (s:Shared) (H:Hp) (vs:List V) (Q:VK) (E:XK),Room k (A.deeper (envOfC x (aL st) s.heap.objs.size f cdv))->sp vs H Q E->
   ∃ t,PSs ((iH (CXe P w) P w K mg base N x (aL st) f cdv A outer s H E).fly E) (b5 st) t/\t {nx:=fun _ H'=>Q .non H',rt:=Q} (start N vs) H):Calls P w K mg base (CXe P w) (k+1) x ps sp:=by
 obtain ⟨f,fd,F,b,m⟩:=D.ex
 exact ⟨f,fd,F.okX S len (hbody f),b,m,F.kp⟩
theorem Calls.imp{CX:CXT}{sp':Sp}(C:Calls P w K mg base CX k x ps sp)(h:∀ vs H Q E,sp' vs H Q E->sp vs H Q E):Calls P w K mg base CX k x ps sp':=by
 obtain ⟨f,fd,F,b,m,kp⟩:=C
 exact ⟨f,fd,F.imp h,b,m,kp⟩
end
section
variable{X:Cx}{CX:CXT}{k:Nat}{x:Str}{ps:List Str}{sp:Sp}{E:XK}{p pos:Pos}{e:Expr}{es:List Expr}{t:TA}
theorem cK(C:Calls X.prog X.w X.K X.mg X.base CX k x ps sp)(hr:Room k X.A)(hg:Gl X x)(hx:iC CX X E)(ha:PA X (e::es) t)(hdb:(x == ("__debug__":Str))=false:=by decide)
  (he:starEach (e::es) X.env=(false,eval e X.env)::starEach es X.env:=by rfl) (hpl:(backTo pos (starEach es X.env)).any (·.1)=false:=by rfl):PE X (.Call (.Name x p) (e::es) [] pos) (zY sp [] E t):=by
 obtain ⟨f,fd,F,b,m,kp⟩:=C
 exact aGG F hr hg m kp b .nil hx ha hdb he hpl
end
def spI(C:Addr)(fs:List Str):Sp:=fun vs H Q _=>∃ e xs,vs=.ref e::xs/\xs.length=fs.length/\H e=some (ExN e C none)/\∀ d,H d=none->d≠e->Q .non (upd (upd H e (ExN e C (some d))) d (.xd (fs.zip xs)))
structure ErrAt(P:Program)(w:World)(K:Frag)(mg:Str->Option Value)(base:Heap)(x:Str)(fs:List Str)(W C:Addr):Prop where
 c:SX.ExcC K W C
 m:mg x=some (.ref C)
 na:∀ f∈fs,PySem.W.findIn K (.ref C) f=some none
 i:∃ fI fdI,FnOk P w K mg base CX0 1 fI fdI ("self"::fs) (spI C fs)/\PySem.W.findIn K (.ref C) "__init__"=some (some (.ref fI))/\PySem.W.typeIn K (.ref fI)=some (.type "function")/\cS K fdI ("self"::fs) []
theorem aDY{H:Hp}{a b:Addr}{o u:HO}(h:a≠b):upd (upd H a o) b u=upd (upd H b u) a o:=by
 funext c
 unfold upd
 by_cases h1:c=a
 · subst h1; rw [if_neg h, if_pos rfl, if_pos rfl]
 · rw [if_neg h1, if_neg h1]
theorem aBY{X:Cx}{E:XK}{fs:List Str}{W C:Addr}{x:Str}{np cpos pos:Pos}{e0:Expr}{rest:List Expr}{ta:TA}(hc:X.calm=true)(er:ErrAt X.prog X.w X.K X.mg X.base x fs W C)(hg:Gl X x)(hr:Room 2 X.A)(ha:PA (X.fly E) (e0::rest) ta)
  (hdb:(x == ("__debug__":Str))=false:=by decide) (he:starEach (e0::rest) X.env=(false,eval e0 X.env)::starEach rest X.env:=by rfl) (hpl:(backTo cpos (starEach rest X.env)).any (·.1)=false:=by rfl) :
  PS (X.fly E) (.Raise (some (.Call (.Name x np) (e0::rest) [] cpos)) none pos) (wL C (spI C fs) E ta):=by
 obtain ⟨fI,fdI,FI,hi,hf,hb⟩:=er.i
 exact qN hc er.c hg er.m FI hi hf hb hr ha hdb he hpl
theorem aAD{C:Addr}{fs:List Str}{vs:List V}{E:XK}{H1:Hp}(hl:vs.length=fs.length)(hz:vs.length<=1000)
  (h:∀ e d,H1 e=none->H1 d=none->d≠e->E (.ref C) (some e) (upd (upd H1 e (ExO e C (some d))) d (.xd (fs.zip vs)))) :
  vs.length<=1000/\∀ e,H1 e=none->spI C fs (.ref e::vs) (upd H1 e (ExN e C none)) (fun v H2=>v=.non/\∃ od,H2 e=some (ExN e C od)/\E (.ref C) (some e) (upd H2 e (ExO e C od))) E0:=by
 refine ⟨hz,fun e he=>⟨e,vs,rfl,hl,aW,fun d hd hde=>⟨rfl,some d,?_,?_⟩⟩⟩
 ·rw[aK (Ne.symm hde),aW]
 ·have hd':H1 d=none:=by rw[aK hde] at hd;exact hd
  have:=h e d he hd' hde
  rw[gW,aDY (a:=d) (b:=e) hde,gW]
  exact this
theorem DatV.tup_of{K:Frag}{H:Hp}{v:V}{ds:List PyData}(h:DatV K H v (.tuple ds)):∃ a xs,v=.ref a/\SqT K H a xs/\DatVs K H xs ds:=by
 cases h with
 | tup h1 h2=>exact ⟨_,_,rfl,h1,h2⟩
theorem DatV.lst_of{K:Frag}{H:Hp}{v:V}{ds:List PyData}(h:DatV K H v (.list ds)):∃ a xs,v=.ref a/\SqL K H a xs/\DatVs K H xs ds:=by
 cases h with
 | lst h1 h2=>exact ⟨_,_,rfl,h1,h2⟩
theorem DatV.int_of{K:Frag}{H:Hp}{v:V}{i:Int}(h:DatV K H v (.int i)):v=.int i:=by cases h;rfl
theorem DatV.str_of{K:Frag}{H:Hp}{v:V}{i:Str}(h:DatV K H v (.str i)):v=.str i:=by cases h;rfl
theorem DatVs.cons_of{K:Frag}{H:Hp}{xs:List V}{d:PyData}{ds:List PyData}(h:DatVs K H xs (d::ds)):∃ x t,xs=x::t/\DatV K H x d/\DatVs K H t ds:=by
 cases h with
 | cons h1 h2=>exact ⟨_,_,rfl,h1,h2⟩
theorem DatVs.nil_of{K:Frag}{H:Hp}{xs:List V}(h:DatVs K H xs []):xs=[]:=by cases h;rfl
theorem dS.nil:dS [] []:=⟨rfl,fun _ _ h=>by simp at h⟩
theorem dS.nil_of{σ:St}(h:dS [] σ):σ=[]:=List.length_eq_zero_iff.mp h.1
def SqS(K:Frag)(H:Hp)(a:Addr)(xs:List V):Prop:=SqL K H a xs\/SqT K H a xs
theorem SqS.same{K:Frag}{H H':Hp}{a:Addr}{xs:List V}(e:aO H H')(h:SqS K H a xs):SqS K H' a xs:=h.imp (SqL.same e) (SqT.same e)
theorem PI.or{X:Cx}{tg iter:Expr}{w1 w2:TI}(h1:PI X tg iter w1)(h2:PI X tg iter w2):PI X tg iter (fun σ H R=>w1 σ H R\/w2 σ H R):=fun pins s σ H R I h=>h.elim (h1 pins s σ H R I) (h2 pins s σ H R I)
def aMC(K:Frag)(tl:TE):TI:=fun σ H R=>tl σ H fun x H1=>∃ a,x=.ref a/\(((∃ xs,SqL K H1 a xs)/\R (Itl K a) H1)\/((∃ xs,SqT K H1 a xs)/\R (Itt K a) H1))
theorem aI4{X:Cx}{tg l:Expr}{tl:TE}(hl:PE X l tl):PI X tg l (aMC X.K tl):=by
 intro pins s σ H R I h
 refine thn (hl pins s σ H _ I h) fun v s1 zz0=>?_
 obtain ⟨x,H1,I1,r1,q1⟩:=zz0
 obtain ⟨a,e,q⟩:=q1
 subst e
 cases r1
 rcases q with ⟨⟨xs,hq⟩,q⟩|⟨⟨xs,hq⟩,q⟩
 ·obtain ⟨its,rv,p,hz⟩:=I1.list hq
  refine wpAny_pyIter_list p.isList ?_
  refine ⟨s1.heap.objs.size,[s1.heap.objs.size],_,_,H1,rfl,I1.kept (t':=s1.toks) fun b o e=>Heap.get?_push_of_some _ e,aBC a _,⟨_,Heap.get?_push_size _ rfl,rfl,rfl⟩,fun b hb=>?_,q⟩
  obtain rfl:=List.mem_singleton.mp hb
  exact I1.fpOk (Nat.le_refl _) (I1.hok.fresh (Nat.le_refl _))
 ·obtain ⟨its,rv,p,hz⟩:=I1.tuple hq
  refine wpAny_pyIter_tuple (show s1.heap.IsTuple a its.toArray from p) ?_
  refine ⟨s1.heap.objs.size,[s1.heap.objs.size],_,_,H1,rfl,I1.kept (t':=s1.toks) fun b o e=>Heap.get?_push_of_some _ e,zP a _,⟨_,Heap.get?_push_size _ rfl,rfl,rfl⟩,fun b hb=>?_,q⟩
  obtain rfl:=List.mem_singleton.mp hb
  exact I1.fpOk (Nat.le_refl _) (I1.hok.fresh (Nat.le_refl _))
end L2
namespace L2
open PySem PySem.Spec PyProof.Rows
def aK5(i j:Int):Prop:=0 < j/\j < 2 ^ 64
theorem aDZ{X:Cx}:OpR X (binaryOp .FloorDiv) (rI aK5 fun i j=>.int (i / j)):=opI fun i j _ _ _ _ _ hc q=>by
 have h1:(0:Int) < j:=hc.1
 have h2:j < 2 ^ 64:=hc.2
 have h3:j.natAbs < 2 ^ 64:=by omega
 have h4:j.natAbs.log2 < 64:=(Nat.log2_lt (by omega)).mpr h3
 exact floordiv_int (by omega) (by rw[Int.fdiv_eq_ediv_of_nonneg i (by omega)];exact q) (.inl (PyProof.noPylong_of_log2 (by omega)))
theorem aK6{X:Cx}{P:Program}{w:World}:iC (CXe P w) X E0:=by
 rintro pins σ H s ev s' I ⟨e,C,od,H',rfl,os,bare,un,hok,he,hv,q⟩
 exact q.elim
section
variable{X:Cx}
def aMD:V->Option Int->Option Int->Hp->VK->Prop:=fun x lo hi H Q=>∃ z,x=.str z/\z.length<=sizeLine/\Q (.str (Txt.slice z lo hi)) H
theorem yR{v:Value}{o:Option Int}(h:IsPart v o):∃ l:Option (Int×Tok),partValue l=v/\l.map (·.1)=o:=by
 cases h with
 | none=>exact ⟨none,rfl,rfl⟩
 | int i t=>exact ⟨some (i,t),rfl,rfl⟩
theorem aI5:SlR X aMD:=by
 intro pins s σ H x v vl vu lo hi sl Q I rx hs pl pu h
 obtain ⟨z,rfl,hz,q⟩:=h
 obtain ⟨t,rfl⟩:=rx
 obtain ⟨l,rfl,el⟩:=yR pl
 obtain ⟨u,rfl,eu⟩:=yR pu
 obtain ⟨o,ho,hc,hd⟩:=hs
 refine ⟨"str",_,PyProof.Rows.slot_str_getitem.lookup,rfl,?_⟩
 refine wpAny_getItem_str_slice (l:=l) (u:=u) (st:=none) ⟨o,ho,hc,hd⟩ rfl ?_
 have le:=Txt.slice_le z lo hi
 unfold Txt.slice at q le
 unfold sliceMade slicePicked
 rw[el,eu]
 simp only[beq_self_eq_true,Bool.true_and,Option.map_none,Option.getD_none] at q le ⊢
 by_cases hb:((Builtin.Str.strSliceIndices lo hi 1 z.length).length == z.length)=true
 ·rw[if_pos hb] at q ⊢
  exact ⟨.str z,H,I,⟨t,rfl⟩,q⟩
 ·rw[if_neg hb] at q le ⊢
  exact ⟨Nat.le_trans le hz,.str _,H,I.tok _,⟨_,rfl⟩,q⟩
def aBZ:V->List V->Hp->VK->Prop:=fun x vs H Q=>∃ z y i rest,x=.str z/\vs=[.str y]/\Builtin.Str.occurrences z y 0 z.length 1=i::rest/\Q (.int i) H
theorem wM:MtR X "str.index" aBZ:=by
 intro pins s σ H x vs v us Q I rx rv h
 obtain ⟨z,y,i,rest,rfl,rfl,ho,q⟩:=h
 obtain ⟨t,rfl⟩:=rx
 obtain ⟨u,rfl,tu,rfl⟩:=rv.one
 exact call_gives F.slot_str_index rfl F.entry_str_index (F.args_str_index_2 _ _) (gives_str_index z y t tu i rest ho) ⟨.int i,H,I.tok _,⟨_,rfl⟩,q⟩
def Ity(z:Str):It:=
 ⟨fun i _=>i < z.cps.size,fun i H x H'=>∃ p c,H p=none/\x=.ref p/\H'=upd H p (.tup [.int i,.str ⟨#[c]⟩])/\z.cps[i]? = some c,fun i _=>i=z.cps.size⟩
theorem aAE{P:Program}{w:World}{K:Frag}{es:List Expr}{k1}{tpos:Pos}(z:Str)(t:Tok)(T:String)(hT:∀ A:Around,A.handled=none->∀ it,Draws P w A it [it] z.cps.size (fun i v=>∃ c u,z.cps[i]? = some c/\v=Value.str {cps:=#[c]} u) fun i h=>h.IsStrIter it T z t i)
  (e it:Addr) (hei:e≠it):Turn P w K (.Tuple es k1 tpos) (Ity z) [e,it] e (fun i h=>(∃ old,IsEnum h e it i old)/\h.IsStrIter it T z t i) where
 mem:=by simp
 obj:=fun i h st b hb=>by
  obtain ⟨⟨old,s1⟩,o,e2,c,d⟩:=st
  rcases List.mem_cons.mp hb with z|z
  ·subst z
   exact ⟨_,s1,fun v z=>by
    have z':Data.fields _=Data.cell v:=z
    cases z'⟩
  ·obtain rfl:b=it:=by simpa using z
   exact ⟨o,e2,fun v z=>by rw[d] at z;cases z⟩
 keep:=fun i h h' st k=>by
  obtain ⟨⟨old,s1⟩,o,e2,c,d⟩:=st
  exact ⟨⟨old,k e (by simp) _ s1⟩,o,k it (by simp) o e2,c,d⟩
 item:=by
  intro X hP hw hK hc i pins s σ H E I hf st hg
  subst hP hw hK
  obtain ⟨⟨old,s1⟩,s2⟩:=st
  obtain ⟨f0,f1,f2,f3,f4,f5⟩:=hf e (by simp)
  obtain ⟨g0,g1,g2,g3,g4,g5⟩:=hf it (by simp)
  refine wpAny_pyNext_enum_itemD (hT X.A.in1 (I.ok.hd hc) it) s1 s2 hg hei (by simpa using hei) fun u h' tk zz0 so si st hz' kp=>?_
  obtain ⟨c,tc,hcc,hu⟩:=zz0
  subst hu
  refine ⟨_,rfl,wpAny_letOwnedTupleGo_enum so fun h2 se sb=>?_⟩
  have ne1:s.heap.objs.size≠e:=Nat.ne_of_gt (Heap.lt_size s1)
  have hT2:h2.get? s.heap.objs.size=some {cls:=.type "tuple",data:=.seq #[.int i tk,.str ⟨#[c]⟩ tc]}:=(sb.2 _ ne1).trans st
  have fT:H s.heap.objs.size=none:=I.hok.fresh (Nat.le_refl _)
  have kp2:∀ b o,b≠e->b≠it->s.heap.get? b=some o->h2.get? b=some o:=fun b o h1 h2' q=>(sb.2 b h1).trans (kp b o h1 h2' q)
  have hok2:HOk X.prog X.w H h2:=fun b uu q=>by
   refine (I.hok b uu q).stay (fun c v hc q'=>kp2 c v ?_ ?_ q') (fun _ q=>q) (fun _ _ q=>q) fun _ _ q=>q
   ·rcases hc with z|z
    ·rw[z];exact fun zz=>by rw[zz,f0] at q;cases q
    ·exact fun zz=>by rw[zz,f0] at z;cases z
   ·rcases hc with z|z
    ·rw[z];exact fun zz=>by rw[zz,g0] at q;cases q
    ·exact fun zz=>by rw[zz,g0] at z;cases z
  have hokT:HOk X.prog X.w (upd H s.heap.objs.size (.tup [.int i,.str ⟨#[c]⟩])) h2:=HOk.track hok2 fT ⟨by show 2<=sizeLine;decide,[.int i tk,.str ⟨#[c]⟩ tc],.cons ⟨_,rfl⟩ (.cons ⟨_,rfl⟩ .nil),⟨_,hT2,rfl,_,rfl⟩⟩
  have ltT:∀ b uu,H b=some uu->b≠s.heap.objs.size:=fun b uu q=>cN q fT
  have I2:Inv X pins σ (upd H s.heap.objs.size (.tup [.int i,.str ⟨#[c]⟩])) {s with heap:=h2,gens:=s.gens,drawn:=s.drawn,toks:=tk+1}:=by
   refine I.step (ch:=[e,it]) (fun b hb=>?_) (fun b o _ _ hc q _=>kp2 b o (fun z=>hc (by simp[z])) (fun z=>hc (by simp[z])) q) (fun b o _ _ hc q _=>⟨o.slots,kp2 b o (fun z=>hc (by simp[z])) (fun z=>hc (by simp[z])) q⟩)
    (fun b o _ q n=>by rw[aK (Nat.ne_of_lt (Heap.lt_size q))];exact n) (fun b o hc q=>⟨o,kp2 b o (fun z=>hc (by simp[z])) (fun z=>hc (by simp[z])) q⟩) (fun b ys q=>by rw[aK (ltT b _ q)];exact q) (fun b o uu q=>by rw[aK (ltT b _ q)];exact q)
    (fun b ps q=>by rw[aK (ltT b _ q)];exact q) (fun m hm=>?_) hokT I.bare
   ·rcases List.mem_cons.mp hb with z|z
    ·subst z;exact ⟨f3,f1,f4,f5⟩
    ·obtain rfl:b=it:=by simpa using z
     exact ⟨g3,g1,g4,g5⟩
   ·obtain ⟨o,es',ep,ho,r⟩:=hm
    exact ⟨o,es',ep,kp2 _ o (Ne.symm f1) (Ne.symm g1) ho,r⟩
  refine ⟨.ref s.heap.objs.size,_,I2,rfl,⟨_,c,fT,rfl,rfl,hcc⟩,⟨⟨_,by simpa using se⟩,?_⟩,fun b hb=>?_⟩
  ·obtain ⟨o,q1,q2,q3⟩:=si
   exact ⟨o,(sb.2 it hei.symm).trans q1,q2,q3⟩
  ·rcases List.mem_cons.mp hb with z|z
   ·subst z;rw[aK (Ne.symm ne1)];exact f0
   ·obtain rfl:b=it:=by simpa using z
    obtain ⟨o,q,_⟩:=s2
    rw[aK (Nat.ne_of_lt (Heap.lt_size q))];exact g0
 done:=by
  intro X hP hw hK hc i pins s σ H E I hf st hg
  subst hP hw hK
  obtain ⟨⟨old,s1⟩,s2⟩:=st
  obtain ⟨g0,g1,g2,g3,g4,g5⟩:=hf it (by simp)
  have hg:i=z.cps.size:=hg
  subst hg
  exact wpAny_pyNext_enum_endD (hT X.A.in1 (I.ok.hd hc) it) s1 s2 fun h' eb=>⟨rfl,I.turned (t':=s.toks) (fun b o hb q=>eb b o hb q) g0 g1 g3 g4 g5⟩
 self:=fun _ _ _ _ _ st h=>wpAny_pyIter_enum st.1.choose_spec h
def aB0(ta:TA):TI:=fun σ H R=>ta σ H fun vs H1=>∃ z,vs=[.str z]/\R (Ity z) H1
theorem aD0{es:List Expr}{k1}{tpos:Pos}{a:Expr}{ta:TA}{p pos:Pos}(hg:Gl X "enumerate")(hm:X.mg "enumerate"=none)(ha:PA X [a] ta)(hs:starEach [a] X.env=[(false,eval a X.env)]:=by rfl) :
  PI X (.Tuple es k1 tpos) (.Call (.Name "enumerate" p) [a] [] pos) (aB0 ta):=by
 intro pins s σ H R I h
 refine Call_ (j4 I hg hm PyProof.Rows.boot_enumerate (PyProof.Rows.callWith_type1 (thn (ha pos pins s σ H _ I h) fun us s1 zz0=>?_) hs rfl))
 obtain ⟨vs,H1,I1,r1,q1⟩:=zz0
 obtain ⟨z,e,q⟩:=q1
 subst e
 obtain ⟨u,rfl,t,rfl⟩:=mZ r1
 have hT:∀ A:Around,A.handled=none->∀ it,Draws X.prog X.w A it [it] z.cps.size (fun i v=>∃ c u,z.cps[i]? = some c/\v=Value.str {cps:=#[c]} u) fun i h=>h.IsStrIter it (strIterType z) z t i:=fun A hA it=>by
  unfold strIterType
  split
  · exact Draws.strAscii hA it z t
  · exact Draws.strWide hA it z t
 refine call_enumerate_str fun h' se si hz' kp=>?_
 have I2:Inv X pins σ H1 {s1 with heap:=h'}:=I1.kept (t':=s1.toks) kp
 refine wpAny_pyIter_enum se ?_
 refine ⟨s1.heap.objs.size+1,[s1.heap.objs.size+1,s1.heap.objs.size],_,_,H1,rfl,I2,aAE z t _ hT _ _ (Nat.ne_of_gt (Nat.lt_succ_self _)),⟨⟨_,se⟩,si⟩,fun b hb=>?_,q⟩
 rcases List.mem_cons.mp hb with z|z
 ·subst z
  exact I1.fpOk (Nat.le_succ _) (I1.hok.fresh (Nat.le_succ _))
 ·obtain rfl:b=s1.heap.objs.size:=by simpa using z
  exact I1.fpOk (Nat.le_refl _) (I1.hok.fresh (Nat.le_refl _))
end
theorem wN{X:Cx}:iU X (.builtin "isinstance") (fun xs H Q=>∃ a ys c cv b,xs=[.ref a,c]/\SqT X.K H a ys/\aAC c=some cv/\PySem.W.kitOne X.K (.type "tuple") cv=some b/\Q (.bl b) H):=by
 intro pins s σ H xs us Q I r h
 obtain ⟨a,ys,c,cv,b,rfl,ha,hc,e,q⟩:=h
 obtain ⟨u,v,rfl,ru,rv⟩:=vH r
 obtain rfl:=sP hc rv
 cases (show u=Value.ref a from ru)
 obtain ⟨its,_,⟨o,h1,h2,_⟩,_⟩:=I.tuple ha
 exact PySem.W.kia_one PySem.W.kitx_tuple I.kIn ⟨o,h1,h2⟩ e (fun z=>nomatch z) fun tk=>⟨.bl b,H,I.tok _,rfl,q⟩
structure RoomH(k:Nat)(A:Around):Prop where
 dp:A.depth+3 * k+5 < recursionLimit
 un:A.units+16 * k+200 < cLine
theorem Room.h{k:Nat}{A:Around}(r:Room k A):RoomH k A:=⟨r.dp,r.un⟩
structure FnOkH(P:Program)(w:World)(K:Frag)(mg:Str->Option Value)(base:Heap)(k:Nat)(f:Addr)(fd:FuncData)(ps:List Str)(sp:Sp):Prop where
 len:∀ vs H Q E,sp vs H Q E->vs.length=ps.length
 run:∀ (A:Around) (outer:List Env) (s:Shared) (H:Hp) (args:Args) (us:List Value) (vs:List V) (Q:VK),RoomH k A->Env0 P w K mg base A outer s H->BindsTo s fd args (ps.zip us)->bG vs us->sp vs H Q E0->
  codeAny (model P w) A (.call (.ref f) args) (CR CX0 outer P w H s Q E0) s
theorem FnOkH.ok{P:Program}{w:World}{K:Frag}{mg:Str->Option Value}{base:Heap}{k:Nat}{f:Addr}{fd:FuncData}{ps:List Str}{sp:Sp}(F:FnOkH P w K mg base k f fd ps sp)(hE:∀ vs H Q E,sp vs H Q E->sp vs H Q E0):FnOk P w K mg base CX0 k f fd ps sp:=
 ⟨F.len,fun A outer s H args us vs Q E hr he hb hv hs=>codeAny_mono (F.run A outer s H args us vs Q hr.h he hb hv (hE _ _ _ _ hs)) fun r s' h=>by
  cases r with
  | error e=>exact h
  | ok fl=>cases fl<;>exact h⟩
end L2
namespace Mc
open PySem L2 PyProof.Rows
inductive Tn where
 | n (i:Int)|w (x:Str)
noncomputable def Tn.v:Tn->V
 | .n i=>.int i
 | .w x=>.str x
noncomputable def Tn.d:Tn->PyData
 | .n i=>.int i
 | .w x=>.str x
structure Rw where
 l:Tn
 c:List (Int×Int)
 r:Tn
def gH(c:Int×Int):PyData:=.tuple [.int c.1,.int c.2]
def c9(r:Rw):PyData:=.tuple [r.l.d,.tuple (r.c.map gH),r.r.d]
def cC(rs:List Rw):PyData:=.tuple (rs.map c9)
inductive CellsAt(K:Frag)(H:Hp):List V->List (Int×Int)->Prop
 | nil:CellsAt K H [] []
 | cons {q:Addr} {a b:Int} {xs:List V} {cs:List (Int×Int)} (h:SqS K H q [.int a,.int b]) (t:CellsAt K H xs cs):CellsAt K H (.ref q::xs) ((a,b)::cs)
def vJ(K:Frag)(H:Hp)(v:V)(r:Rw):Prop:=∃ p b cs,v=.ref p/\SqS K H p [r.l.v,.ref b,r.r.v]/\SqS K H b cs/\CellsAt K H cs r.c
inductive RowsAt(K:Frag)(H:Hp):List V->List Rw->Prop
 | nil:RowsAt K H [] []
 | cons {v:V} {r:Rw} {xs:List V} {rs:List Rw} (h:vJ K H v r) (t:RowsAt K H xs rs):RowsAt K H (v::xs) (r::rs)
section
variable{K:Frag}{H H':Hp}
theorem CellsAt.same(e:aO H H'):∀ {xs:List V} {cs:List (Int×Int)},CellsAt K H xs cs->CellsAt K H' xs cs
 | _,_,.nil=>.nil
 | _,_,.cons h t=>.cons (h.same e) (t.same e)
theorem CellsAt.len:∀ {xs:List V} {cs:List (Int×Int)},CellsAt K H xs cs->xs.length=cs.length
 | _,_,.nil=>rfl
 | _,_,.cons h t=>by simp[t.len]
theorem vJ.same(e:aO H H'){v:V}{r:Rw}(h:vJ K H v r):vJ K H' v r:=by
 obtain ⟨p,b,cs,h1,h2,h3,h4⟩:=h
 exact ⟨p,b,cs,h1,h2.same e,h3.same e,h4.same e⟩
theorem RowsAt.same(e:aO H H'):∀ {xs:List V} {rs:List Rw},RowsAt K H xs rs->RowsAt K H' xs rs
 | _,_,.nil=>.nil
 | _,_,.cons h t=>.cons (h.same e) (t.same e)
theorem RowsAt.len:∀ {xs:List V} {rs:List Rw},RowsAt K H xs rs->xs.length=rs.length
 | _,_,.nil=>rfl
 | _,_,.cons h t=>by simp[t.len]
end
def m5(K:Frag)(a:Addr)(xs:List V):Prop:=∃ (o:Obj) (its:Array Value) (n:Nat),K.lookup a=some o/\o.cls=.type "tuple"/\o.data=.seq its n/\its.size<=sizeLine/\bG xs its.toList
theorem m5.sq{K:Frag}{a:Addr}{xs:List V}(h:m5 K a xs)(H:Hp):SqT K H a xs:=.inr h
noncomputable def Tn.ok:Tn->Prop
 | .n _=>True
 | .w x=>PyData.strOk x=true
def Rw.ok(r:Rw):Prop:=r.l.ok/\r.r.ok
theorem sQ:∀ {xs:List PyData},(∀ x∈xs,x.canLay0=true)->PyData.canLayAll0 xs=true
 | [],_=>by rfl
 | x::t,h=>by
  show (x.canLay0 && PyData.canLayAll0 t)=true
  rw[h x (List.mem_cons_self ..),sQ fun y hy=>h y (List.mem_cons_of_mem _ hy)];rfl
theorem oO{n:Nat}:∀ {xs:List PyData},(∀ x∈xs,x.depth<=n)->PyData.depthAll xs<=n
 | [],_=>Nat.zero_le _
 | x::t,h=>by
  show max x.depth (PyData.depthAll t)<=n
  exact Nat.max_le.mpr ⟨h x (List.mem_cons_self ..),oO fun y hy=>h y (List.mem_cons_of_mem _ hy)⟩
def Sh(n:Nat)(d:PyData):Prop:=d.canLay0=true/\d.depth<=n
theorem oP{n:Nat}{xs:List PyData}(h:∀ x∈xs,Sh n x):Sh (n+1) (.tuple xs):=⟨sQ fun x hx=>(h x hx).1,by
 have:=oO fun x hx=>(h x hx).2
 show PyData.depthAll xs+1<=n+1
 omega⟩
theorem sh_lst{n:Nat}{xs:List PyData}(h:∀ x∈xs,Sh n x):Sh (n+1) (.list xs):=⟨sQ fun x hx=>(h x hx).1,by
 have:=oO fun x hx=>(h x hx).2
 show PyData.depthAll xs+1<=n+1
 omega⟩
theorem rG(n:Nat)(i:Int):Sh n (.int i):=⟨rfl,Nat.zero_le _⟩
theorem aI6(n:Nat){x:Str}(h:PyData.strOk x=true):Sh n (.str x):=⟨h,Nat.zero_le _⟩
theorem Sh.shaped{n:Nat}{d:PyData}(h:Sh n d)(hn:n<=64):SeqAt.shaped d=true:=by
 show (d.canLay0 && decide (d.depth<=64))=true
 rw[h.1,decide_eq_true (Nat.le_trans h.2 hn)];rfl
section
variable{K:Frag}{H:Hp}{p q:Addr}{xs ys:List V}{o:HO}
inductive NoL:PyData->Prop where
 | int (i:Int):NoL (.int i)
 | str (i:Str):NoL (.str i)
 | tup {ds:List PyData} (h:∀ d∈ds,NoL d):NoL (.tuple ds)
end
section
variable{K:Frag}{h:Heap}{mg:Str->Option Value}
theorem cI{x:Str}{st:Stmt}{ps:List Str}{f:Addr}{oc:Value}{od an:Option Addr}{osl:Array (Option Value)}{kV doc pm cdv ct:Value}(X:K.In h)(G:h.Ns mainGlobals mg)
  (a:PySem.W.nsIn K mainGlobals x=some (some (.ref f))) (l:K.lookup f=some ⟨oc,od,.func (PySem.W.fnOf x x (cW st) (b5 st) (aL st) .none kV doc pm an cdv ct),osl⟩)
  (c:PySem.W.codeIn K cdv x=true) (k:PySem.W.keepIn K (.ref f)=true)
  (b:∀ (kV doc pm:Value) (an:Option Addr) (cdv ct:Value) (us:List Value),us.length=ps.length->bindArgs (PySem.W.fnOf x x (cW st) (b5 st) (aL st) .none kV doc pm an cdv ct) ⟨us,[]⟩=pure (ps.zip us)):DefAt K mg x st ps:=by
 have F:=eP (st:=st) l c k
 exact ⟨f,_,F,F.binds b,PySem.W.mg_of X G a⟩
theorem aI7{a:Addr}{x y:Str}{t1 t2 n:Nat}{od:Option Addr}{sl:Array (Option Value)}(l:K.lookup a=some ⟨.type "tuple",od,.seq #[.str x t1,.str y t2] n,sl⟩):m5 K a [.str x,.str y]:=
 ⟨_,_,_,l,rfl,rfl,by show 2<=sizeLine;decide,.cons ⟨_,rfl⟩ (.cons ⟨_,rfl⟩ .nil)⟩
theorem aI8{a:Addr}{x y:Int}{t1 t2 n:Nat}{od:Option Addr}{sl:Array (Option Value)}(l:K.lookup a=some ⟨.type "tuple",od,.seq #[.int x t1,.int y t2] n,sl⟩):m5 K a [.int x,.int y]:=
 ⟨_,_,_,l,rfl,rfl,by show 2<=sizeLine;decide,.cons ⟨_,rfl⟩ (.cons ⟨_,rfl⟩ .nil)⟩
end
section
variable{K:Frag}{h:Heap}{mg:Str->Option Value}
theorem aGS{W C N:Addr}{bs sub:List Value}{nm q:Str}{ab:Bool}{sn:List Str}{col:Option Bool}{dd:Option Addr}{k0 k1 k2 k3 k5:Option Value}(l:K.lookup C=some (excClassObj nm q C N bs (.ref W::SX.hV) true sn sub ab col dd k0 k1 k2 k3 k5 "ValueError.__new__"))
 (sa:PySem.W.findIn K (.ref C) "__setattr__"=some (some (.builtin "object.__setattr__"))) (ga:PySem.W.findIn K (.ref C) "__getattribute__"=some (some (.builtin "BaseException.__getattribute__"))) (gh:PySem.W.findIn K (.ref C) "__getattr__"=some none) (cl:PySem.W.findIn K (.ref C) "__class__"=some (some (.builtin "object.__class__")))
 (clg:PySem.W.specialIn K (.builtin "object.__class__") "__get__"=some (some (.builtin "getset_descriptor.__get__"))) (clt:PySem.W.takesIn K (.builtin "object.__class__")=some true) (kp:PySem.W.keepIn K (.ref C)=true):SX.ExcC K W C:=⟨⟨_,_,_,_,_,_,_,_,_,_,_,_,_,_,l⟩,sa,ga,gh,cl,clg,clt,kp⟩
end
end Mc
namespace Mc
open PySem L2 PyProof.Rows
noncomputable def dU(n c:Nat):Bool:=decide (97<=c/\c < 97+n)
noncomputable def jY(n:Nat):Nat->List Nat->Option Nat
 | _,[]=>none
 | i,c::t=>if dU n c=true then jY n (i+1) t else some i
theorem rH(n i c:Nat)(t:List Nat):jY n i (c::t)=if dU n c=true then jY n (i+1) t else some i:=rfl
theorem occ_one(x:Str)(c:Nat):(Builtin.Str.occurrences x ⟨#[c]⟩ 0 x.length 1=[]/\∀ i:Nat,x.cps.toList[i]? ≠ some c)\/∃ (i:Nat) (r:List Nat),Builtin.Str.occurrences x ⟨#[c]⟩ 0 x.length 1=i::r/\x.cps.toList[i]? = some c/\∀ k:Nat,k < i->x.cps.toList[k]? ≠ some c:=by
 rcases StrLaws.occ_head x ⟨#[c]⟩ 1 (Nat.le_refl _) with ⟨h1,h2⟩|⟨i,r,h1,h2,h3⟩
 · exact .inl ⟨h1, fun i e => h2 i ((StrLaws.subAt_one x c i).mpr e)⟩
 · exact .inr ⟨i, r, h1, (StrLaws.subAt_one x c i).mp h2, fun k hk e => h3 k hk ((StrLaws.subAt_one x c k).mpr e)⟩
theorem aGT{n:Nat}(h1:1<=n)(h2:n<=3):(Txt.slice "abc" none (some (n:Int))).cps.toList=[97,98,99].take n:=by
 obtain rfl|rfl|rfl:n=1\/n=2\/n=3:=by omega
 all_goals decide +kernel
theorem t7{n c:Nat}(h1:1<=n)(h2:n<=3):dU n c=true↔∃ i:Nat,(([97,98,99]:List Nat).take n)[i]? = some c:=by
 unfold dU
 rw[decide_eq_true_iff]
 constructor
 ·intro h
  refine ⟨c - 97,?_⟩
  obtain rfl|rfl|rfl:n=1\/n=2\/n=3:=by omega
  ·obtain rfl:c=97:=by omega
   rfl
  ·obtain rfl|rfl:c=97\/c=98:=by omega
   all_goals rfl
  ·obtain rfl|rfl|rfl:c=97\/c=98\/c=99:=by omega
   all_goals rfl
 ·rintro ⟨i,e⟩
  obtain ⟨hi,he⟩:=List.getElem?_eq_some_iff.mp e
  have hm:=List.getElem_mem hi
  rw[he] at hm
  obtain rfl|rfl|rfl:n=1\/n=2\/n=3:=by omega
  all_goals
   simp at hm
   omega
theorem aD1{n c:Nat}(h1:1<=n)(h2:n<=3):(!(!(Builtin.Str.occurrences (Txt.slice "abc" none (some (n:Int))) ⟨#[c]⟩ 0 (Txt.slice "abc" none (some (n:Int))).length 1).isEmpty)) = !dU n c:=by
 have e:=aGT h1 h2
 rcases occ_one (Txt.slice "abc" none (some (n:Int))) c with ⟨a,b⟩|⟨i,r,a,b,_⟩
 ·rw[a]
  have:dU n c=false:=Bool.eq_false_iff.mpr fun z=>by
   obtain ⟨i,hi⟩:=(t7 h1 h2).mp z
   rw[e] at b
   exact b i hi
  rw[this];rfl
 ·rw[a]
  rw[e] at b
  rw[(t7 h1 h2).mpr ⟨i,b⟩];rfl
theorem aB1{c:Nat}(h:dU 3 c=true):∃ r,Builtin.Str.occurrences "abc" ⟨#[c]⟩ 0 ("abc":Str).length 1=(c - 97)::r:=by
 have h:=of_decide_eq_true h
 refine ⟨[],?_⟩
 obtain rfl|rfl|rfl:c=97\/c=98\/c=99:=by omega
 all_goals decide +kernel
end Mc
namespace L2
open PySem PySem.Spec PyProof.Rows
section
variable{κ:Type}[DecidableEq κ]
theorem f6.getD{o:Option V}{u:Option Value}{d:V}{d':Value}(r:f6 o u)(rd:bH d d'):bH (o.getD d) (u.getD d'):=by
 cases o with
 | none=>cases u with
  | none=>exact rd
  | some _=>exact (show False from r).elim
 | some _=>cases u with
  | none=>exact (show False from r).elim
  | some _=>exact r
theorem KV.length{kvs:List (κ×V)}{vs:List (κ×Value)}(r:KV kvs vs):kvs.length=vs.length:=Paired.length r
end
theorem aFP{P:Program}{w:World}{k:Key}{u:Value}(r:bH (kV k) u):(dN P w).is k u=true:=by
 cases k with
 | inl i=>obtain ⟨t,e⟩:=(show ∃ t,u=Value.int i t from r);subst e;exact x8 P w i t
 | inr x=>obtain ⟨t,e⟩:=(show ∃ t,u=Value.str x t from r);subst e;exact x9 P w x t
section
variable{X:Cx}{pins:List (Addr×Obj)}{σ:St}{H:Hp}{s:Shared}{a:Addr}{y v:V}{u r:Value}{o:Option V}{A:Around}{E:Value->Shared->Prop}
theorem Inv.big(I:Inv X pins σ H s):sysModules < s.heap.objs.size:=by
 have h:mainGlobals < s.heap.objs.size:=(I.mod.glob.keeps I.bk).lt
 exact Nat.lt_trans (by decide) h
theorem yS{h':Heap}{t':Nat}{ob:HO}(I:Inv X pins σ H s)(mu:Mut (H a))(hs:Heap.SameBut a s.heap h')(he:∃ q,h'.get? a=some q)(new:cR X.prog X.w (upd H a ob) h' a ob) :
  Inv X pins σ (upd H a ob) {s with heap:=h',toks:=t'}:=
 I.write (x:=a) (e:=a) mu (.inl rfl) (fun b q hb z=>(hs.2 b hb).trans z) he new
end
structure M1(X:Cx)(o:Expr)(m:Str)(apos:Pos)(e:Expr)(cpos:Pos):Prop where
 base:attributeBase o m X.env (eval o X.env)=eval o X.env
 few:((backTo cpos (starEach [e] X.env)).all (fun x=>!x.1) && (backToKw cpos (keywordEach [] X.env)).all (fun x=>x.1.isSome)
  && decide (([e]:List Expr).length+([]:List Keyword).length+(if ([]:List Keyword).isEmpty then 0 else 1) < 30))=true
 line:(apos.endLine == cpos.line)=true
 trees:backTo cpos (starEach [e] X.env)=[(false,eval e X.env)]
structure M2(X:Cx)(o:Expr)(m:Str)(apos:Pos)(e f:Expr)(cpos:Pos):Prop where
 base:attributeBase o m X.env (eval o X.env)=eval o X.env
 few:((backTo cpos (starEach [e,f] X.env)).all (fun x=>!x.1) && (backToKw cpos (keywordEach [] X.env)).all (fun x=>x.1.isSome)
  && decide (([e,f]:List Expr).length+([]:List Keyword).length+(if ([]:List Keyword).isEmpty then 0 else 1) < 30))=true
 line:(apos.endLine == cpos.line)=true
 trees:backTo cpos (starEach [e,f] X.env)=[(false,eval e X.env),(false,eval f X.env)]
end L2
namespace L2
open PySem PySem.Spec PyProof.Rows
end L2
namespace L2
open PySem PySem.Spec PyProof.Rows
def mD(K:Frag)(H:Hp)(ks:List (List Key×Addr)):Prop:=∀ p∈ks,SqT K H p.2 (p.1.map kV)
theorem mD.same{K:Frag}{H H':Hp}{ks:List (List Key×Addr)}(e:aO H H')(h:mD K H ks):mD K H' ks:=fun p hp=>SqT.same e (h p hp)
theorem SqT.ext{K:Frag}{H:Hp}{a q:Addr}{φ:Heap->Prop}{o:HO}{xs:List V}(h:SqT K H q xs)(ha:H a=some (.ext φ)):SqT K (upd H a o) q xs:=by
 rcases h with (h|⟨u,h⟩)|h
 ·refine .inl (.inl ?_)
  rw[aK (fun z=>by rw[z,ha] at h;cases h)];exact h
 ·refine .inl (.inr ⟨u,?_⟩)
  rw[aK (fun z=>by rw[z,ha] at h;cases h)];exact h
 ·exact .inr h
theorem SqL.ext{K:Frag}{H:Hp}{a q:Addr}{φ:Heap->Prop}{o:HO}{xs:List V}(h:SqL K H q xs)(ha:H a=some (.ext φ)):SqL K (upd H a o) q xs:=by
 rcases h with (h|⟨u,h⟩)|h
 ·refine .inl (.inl ?_)
  rw[aK (fun z=>by rw[z,ha] at h;cases h)];exact h
 ·refine .inl (.inr ⟨u,?_⟩)
  rw[aK (fun z=>by rw[z,ha] at h;cases h)];exact h
 ·exact .inr h
mutual
theorem DatV.ext{K:Frag}{H:Hp}{a:Addr}{φ:Heap->Prop}{o:HO}(ha:H a=some (.ext φ)):∀ {x:V} {d:PyData},DatV K H x d->DatV K (upd H a o) x d
 | _,_,.non=>.non
 | _,_,.bl b=>.bl b
 | _,_,.int i=>.int i
 | _,_,.str x=>.str x
 | _,_,.lst h ds=>.lst (h.ext ha) (DatVs.ext ha ds)
 | _,_,.tup h ds=>.tup (h.ext ha) (DatVs.ext ha ds)
theorem DatVs.ext{K:Frag}{H:Hp}{a:Addr}{φ:Heap->Prop}{o:HO}(ha:H a=some (.ext φ)):∀ {xs:List V} {ds:List PyData},DatVs K H xs ds->DatVs K (upd H a o) xs ds
 | _,_,.nil=>.nil
 | _,_,.cons h t=>.cons (DatV.ext ha h) (DatVs.ext ha t)
end
theorem mD.ext{K:Frag}{H:Hp}{a:Addr}{φ:Heap->Prop}{o:HO}{ks:List (List Key×Addr)}(h:mD K H ks)(ha:H a=some (.ext φ)):mD K (upd H a o) ks:=fun p hp=>SqT.ext (h p hp) ha
end L2
namespace Mc
open PySem L2 PyProof.Rows
def Tn.good(n:Int):Tn->Prop
 | .n i=>0<=i/\i < n
 | .w x=>x="by"\/x="out"
def qO(n:Int)(c:Int×Int):Prop:=0<=c.1/\c.1 < n/\(c.2=1\/c.2 = -1)
def Rw.good(n:Int)(r:Rw):Prop:=r.l.good n/\r.r.good n/\∀ c∈r.c,qO n c
theorem Tn.good.ok{n:Int}{t:Tn}(h:t.good n):t.ok:=by
 cases t with
 | n i=>trivial
 | w x=>
  rcases h with rfl|rfl
  · exact (show PyData.strOk _ = true by decide +kernel)
  · exact (show PyData.strOk _ = true by decide +kernel)
theorem Rw.good.ok{n:Int}{r:Rw}(h:r.good n):r.ok:=⟨h.1.ok,h.2.1.ok⟩
structure Mach(rs:List Rw)(sg:Nat):Prop where
 len:1<=rs.length
 len2:rs.length<=1000
 sg1:1<=sg
 sg3:sg<=3
 row:∀ r∈rs,r.good rs.length/\r.c.length=sg
def cT(sg:Nat)(z:List Nat):Prop:=z.length<=1000/\∀ c∈z,dU sg c=true
theorem wO{sg:Nat}:∀ {z:List Nat} {i:Nat},(∀ c∈z,dU sg c=true)->jY sg i z=none
 | [],_,_=>rfl
 | c::t,i,h=>by
  rw[rH,if_pos (h c (by simp))]
  exact wO fun x hx=>h x (by simp[hx])
noncomputable def dD(rs:List Rw)(q:Int):Rw:=rs.getD q.toNat ⟨.n 0,[],.n 0⟩
noncomputable def bU(rs:List Rw)(z:List Nat)(st:Int×Int):Tn×Int:=
 if st.1=0 then ((dD rs st.2).l,1) else if st.1=(z.length:Int)+1 then ((dD rs st.2).r,-1) else
  (.n ((dD rs st.2).c.getD (z.getD (st.1.toNat - 1) 97 - 97) (0,0)).1,((dD rs st.2).c.getD (z.getD (st.1.toNat - 1) 97 - 97) (0,0)).2)
def cD(rs:List Rw)(z:List Nat)(st:Int×Int):Option (Int×Int):=
 match (bU rs z st).1 with
 | .w _=>none
 | .n q=>some (st.1+(bU rs z st).2,q)
def eM(rs:List Rw)(z:List Nat)(st:Int×Int):Prop:=0<=st.1/\st.1<=(z.length:Int)+1/\0<=st.2/\st.2 < (rs.length:Int)
theorem lP{rs:List Rw}{q:Int}(h0:0<=q)(h1:q < rs.length):rs[q.toNat]? = some (dD rs q):=by
 have h:q.toNat < rs.length:=by omega
 unfold dD
 rw[List.getD_eq_getElem?_getD,List.getElem?_eq_getElem h];rfl
theorem sR{rs:List Rw}{sg:Nat}{z:List Nat}{st:Int×Int}(S:cT sg z)(V:eM rs z st)(h0:st.1≠0)(h1:st.1≠(z.length:Int)+1):∃ c,z[st.1.toNat - 1]? = some c/\dU sg c=true/\z.getD (st.1.toNat - 1) 97=c:=by
 obtain ⟨a,b,_,_⟩:=V
 have hl:st.1.toNat - 1 < z.length:=by omega
 refine ⟨z[st.1.toNat - 1],by simp[hl],S.2 _ (List.getElem_mem hl),by rw[List.getD_eq_getElem?_getD,List.getElem?_eq_getElem hl];rfl⟩
theorem m6{rs:List Rw}{sg:Nat}{z:List Nat}{st:Int×Int}(M:Mach rs sg)(S:cT sg z)(V:eM rs z st)(h0:st.1≠0)(h1:st.1≠(z.length:Int)+1) :
  ∃ c,(dD rs st.2).c[z.getD (st.1.toNat - 1) 97 - 97]? = some c/\(dD rs st.2).c.getD (z.getD (st.1.toNat - 1) 97 - 97) (0,0)=c/\qO rs.length c:=by
 obtain ⟨c,_,hs,e⟩:=sR S V h0 h1
 rw[e]
 have hs:=of_decide_eq_true hs
 have hr:=M.row _ (List.mem_of_getElem? (lP V.2.2.1 V.2.2.2))
 have hl:c - 97 < (dD rs st.2).c.length:=by rw[hr.2];omega
 refine ⟨(dD rs st.2).c[c - 97],by simp[hl],by rw[List.getD_eq_getElem?_getD,List.getElem?_eq_getElem hl];rfl,hr.1.2.2 _ (List.getElem_mem hl)⟩
theorem m7{rs:List Rw}{sg:Nat}{z:List Nat}{st st':Int×Int}(M:Mach rs sg)(S:cT sg z)(V:eM rs z st)(h:cD rs z st=some st'):eM rs z st':=by
 have hr:=M.row _ (List.mem_of_getElem? (lP V.2.2.1 V.2.2.2))
 obtain ⟨a,b,c,d⟩:=id V
 unfold cD bU at h
 by_cases h0:st.1=0
 ·simp only[if_pos h0] at h
  have g:=hr.1.1
  cases e:(dD rs st.2).l with
  | w x=>rw[e] at h;cases h
  | n q=>
   rw[e] at h g
   cases h
   exact ⟨by show 0<=st.1+1;omega,by show st.1+1<=_;omega,g.1,g.2⟩
 ·by_cases h1:st.1=(z.length:Int)+1
  ·simp only[if_neg h0,if_pos h1] at h
   have g:=hr.1.2.1
   cases e:(dD rs st.2).r with
   | w x=>rw[e] at h;cases h
   | n q=>
    rw[e] at h g
    cases h
    exact ⟨by show 0<=st.1 + -1;omega,by show st.1 + -1<=_;omega,g.1,g.2⟩
  ·obtain ⟨cc,_,e,g⟩:=m6 M S V h0 h1
   simp only[if_neg h0,if_neg h1] at h
   rw[e] at h
   cases h
   obtain ⟨g1,g2,g3⟩:=g
   refine ⟨?_,?_,g1,g2⟩
   ·show 0<=st.1+cc.2;rcases g3 with g3|g3<;>omega
   ·show st.1+cc.2<=_;rcases g3 with g3|g3<;>omega
theorem t8:∀ (N:Nat) (l:List Nat),l.Nodup->(∀ x∈l,x < N)->l.length<=N
 | 0,l,_,h=>by
  cases l with
  | nil=>exact Nat.le_refl _
  | cons a t=>exact absurd (h a (by simp)) (by omega)
 | N+1,l,hn,h=>by
  have ih:=t8 N (l.erase N) (hn.erase N) (fun x hx=>by
   have:=(hn.mem_erase_iff).mp hx
   have h2:=h x this.2
   omega)
  have:=List.length_erase (a:=N) (l:=l)
  split at this<;>omega
theorem aAF{rs:List Rw}{z:List Nat}{l:List (Int×Int)}(hn:l.Nodup)(hv:∀ st∈l,eM rs z st):l.length<=(z.length+2) * rs.length:=by
 have h:=t8 ((z.length+2) * rs.length) (l.map fun st=>st.1.toNat * rs.length+st.2.toNat) ?_ ?_
 ·rw[List.length_map] at h;exact h
 ·unfold List.Nodup
  rw[List.pairwise_map]
  refine List.Pairwise.imp_of_mem (fun {a b} ha hb hab e=>hab ?_) hn
  obtain ⟨a1,a2,a3,a4⟩:=hv a ha
  obtain ⟨b1,b2,b3,b4⟩:=hv b hb
  have hm:0 < rs.length:=by omega
  have e1:(a.1.toNat * rs.length+a.2.toNat) / rs.length=(b.1.toNat * rs.length+b.2.toNat) / rs.length:=by rw[e]
  have e2:(a.1.toNat * rs.length+a.2.toNat) % rs.length=(b.1.toNat * rs.length+b.2.toNat) % rs.length:=by rw[e]
  have ha2:a.2.toNat < rs.length:=by omega
  have hb2:b.2.toNat < rs.length:=by omega
  rw[Nat.mul_comm,Nat.mul_add_div hm,Nat.mul_comm b.1.toNat,Nat.mul_add_div hm,Nat.div_eq_of_lt ha2,Nat.div_eq_of_lt hb2] at e1
  rw[Nat.mul_comm,Nat.mul_add_mod,Nat.mul_comm b.1.toNat,Nat.mul_add_mod,Nat.mod_eq_of_lt ha2,Nat.mod_eq_of_lt hb2] at e2
  exact Prod.ext (by omega) (by omega)
 ·intro x hx
  obtain ⟨st,hst,rfl⟩:=List.mem_map.mp hx
  obtain ⟨a1,a2,a3,a4⟩:=hv st hst
  have h1:st.1.toNat+1<=z.length+2:=by omega
  have h2:st.2.toNat < rs.length:=by omega
  calc st.1.toNat * rs.length+st.2.toNat < st.1.toNat * rs.length+rs.length:=by omega
   _=(st.1.toNat+1) * rs.length:=by rw[Nat.add_mul];omega
   _<=(z.length+2) * rs.length:=Nat.mul_le_mul_right _ h1
noncomputable def pM(rs:List Rw)(z:List Nat):Nat->List (Int×Int)->Int×Int->List (Int×Int)
 | 0,ps,st=>ps++[st]
 | k+1,ps,st=>if st∈ps then ps++[st] else match cD rs z st with
  | none=>ps++[st]
  | some st'=>pM rs z k (ps++[st]) st'
def iW(rs:List Rw)(z:List Nat):Nat:=(z.length+2) * rs.length
def eB(rs:List Rw)(z:List Nat):List (Int×Int):=pM rs z (iW rs z) [] (0,0)
structure Way(rs:List Rw)(z:List Nat)(ps:List (Int×Int))(st:Int×Int)(k:Nat):Prop where
 nd:ps.Nodup
 val:∀ s∈ps++[st],eM rs z s
 num:ps.length+k=iW rs z
 res:pM rs z k ps st=eB rs z
theorem Way.start{rs:List Rw}{sg:Nat}{z:List Nat}(M:Mach rs sg):Way rs z [] (0,0) (iW rs z) where
 nd:=List.nodup_nil
 val:=fun s hs=>by
  obtain rfl:s=(0,0):=by simpa using hs
  have:=M.len
  exact ⟨Int.le_refl _,by show (0:Int)<=_;omega,Int.le_refl _,by show (0:Int) < _;omega⟩
 num:=by simp
 res:=rfl
theorem Way.here{rs:List Rw}{z:List Nat}{ps:List (Int×Int)}{st:Int×Int}{k:Nat}(W:Way rs z ps st k):eM rs z st:=W.val st (by simp)
theorem Way.stop{rs:List Rw}{z:List Nat}{ps:List (Int×Int)}{st:Int×Int}{k:Nat}(W:Way rs z ps st k)(h:st∈ps):ps++[st]=eB rs z:=by
 rw[<-W.res]
 cases k with
 | zero=>rfl
 | succ k=>unfold pM;rw[if_pos h]
theorem Way.more{rs:List Rw}{z:List Nat}{ps:List (Int×Int)}{st:Int×Int}{k:Nat}(W:Way rs z ps st k)(h:st∉ps):∃ j,k=j+1:=by
 have hn:(ps++[st]).Nodup:=by
  rw[List.nodup_append]
  exact ⟨W.nd,by simp,fun a ha b hb e=>by rw[List.mem_singleton.mp hb] at e;exact h (e▸ha)⟩
 have:=aAF hn W.val
 rw[List.length_append] at this
 have hk:=W.num
 unfold iW at hk
 simp only[List.length_cons,List.length_nil] at this
 exact ⟨k - 1,by omega⟩
theorem Way.ends{rs:List Rw}{z:List Nat}{ps:List (Int×Int)}{st:Int×Int}{k:Nat}(W:Way rs z ps st k)(h:st∉ps)(e:cD rs z st=none):ps++[st]=eB rs z:=by
 obtain ⟨j,rfl⟩:=W.more h
 rw[<-W.res]
 unfold pM
 rw[if_neg h,e]
theorem Way.next{rs:List Rw}{sg:Nat}{z:List Nat}{ps:List (Int×Int)}{st st':Int×Int}{k:Nat}(M:Mach rs sg)(S:cT sg z)(W:Way rs z ps st (k+1))(h:st∉ps)(e:cD rs z st=some st'):Way rs z (ps++[st]) st' k where
 nd:=by
  rw[List.nodup_append]
  exact ⟨W.nd,by simp,fun a ha b hb e=>by rw[List.mem_singleton.mp hb] at e;exact h (e▸ha)⟩
 val:=fun s hs=>by
  rcases List.mem_append.mp hs with q|q
  · exact W.val s q
  · rw [List.mem_singleton.mp q]; exact m7 M S W.here e
 num:=by rw[List.length_append];have:=W.num;simp;omega
 res:=by
  rw[<-W.res]
  conv=>rhs;unfold pM
  rw[if_neg h,e]
end Mc
namespace L2
open PySem PySem.Spec PyProof.Rows
theorem mF:∀ {ys:List Str} {us:List Value},bG (ys.map V.str) us->StrsAre us ys
 | [],_,.nil=>.nil
 | y::ys,_,.cons r t=>by obtain ⟨t',rfl⟩:=r;exact .cons y t' (mF t)
def aFQ(K:Frag):V->List V->Hp->VK->Prop:=fun x vs H Q=>∃ (sep:Str) (a:Addr) (ys:List Str),x=.str sep/\vs=[.ref a]/\SqL K H a (ys.map V.str)/\(ys.map fun y=>y.length).sum+ys.length * sep.length<=16777216/\Q (.str (Txt.join sep ys)) H
theorem aGU{X:Cx}:MtR X "str.join" (aFQ X.K):=by
 intro pins s σ H x vs v us Q I rx rv h
 obtain ⟨sep,a,ys,rfl,rfl,ha,hz,q⟩:=h
 obtain ⟨t,rfl⟩:=rx
 obtain ⟨u,rfl,ru⟩:=rv.one
 cases (show u=Value.ref a from ru)
 obtain ⟨its,r,pl,_⟩:=I.list ha
 exact join_list (items:=its.toArray) pl.isList (by simpa using mF r) hz fun t' k=>⟨.str _,H,I.tok _,⟨_,rfl⟩,q⟩
end L2
namespace Mc
open PySem L2 PyProof.Rows
noncomputable def one(c:Nat):Str:=⟨#[c]⟩
theorem aB2(cs:List Nat):∀ (a:Array Nat),(List.foldl (fun acc p=>acc++("":Str).cps++p.cps) a (cs.map one)).toList=a.toList++cs:=by
 induction cs with
 | nil=>intro a;simp
 | cons c t ih=>
  intro a
  rw[List.map_cons,List.foldl_cons,ih]
  have:("":Str).cps = #[]:=rfl
  rw[this]
  simp[one]
theorem aD2(cs:List Nat):(Txt.join "" (cs.map one)).cps.toList=cs:=by
 unfold Txt.join Builtin.Str.glued
 cases cs with
 | nil=>rfl
 | cons c t=>
  show (List.foldl _ (one c).cps (t.map one)).toList=_
  rw[aB2];rfl
theorem aGV(cs:List Nat):((cs.map one).map fun y=>y.length).sum=cs.length:=by
 induction cs with
 | nil=>rfl
 | cons c t ih=>rw[List.map_cons,List.map_cons,List.sum_cons,ih,List.length_cons];show 1+_=_;omega
theorem aGW{x y:Str}(h:x.cps.toList=y.cps.toList):x=y:=by
 cases x;cases y
 simp only[Str.mk.injEq]
 exact Array.toList_inj.mp h
theorem aGX(cs:List Nat):Txt.join "" (cs.map one)=⟨cs.toArray⟩:=aGW (by rw[aD2])
theorem aGY{k:Int}{sg:Nat}(h1:1<=sg)(h3:sg<=3):∃ c,atI ("abc":Str).cps.toList (k % (sg:Int))=some c/\dU sg c=true:=by
 have h0:=Int.emod_nonneg k (show (sg:Int)≠0 by omega)
 have h2:=Int.emod_lt_of_pos k (show (0:Int) < sg by omega)
 obtain ⟨j,hj⟩:∃ j:Nat,k % (sg:Int)=j:=⟨(k % (sg:Int)).toNat,by omega⟩
 rw[hj] at h0 h2 ⊢
 refine ⟨97+j,?_,decide_eq_true (by omega)⟩
 obtain rfl|rfl|rfl:j=0\/j=1\/j=2:=by omega
 all_goals decide +kernel
end Mc
namespace Mc
open PySem L2 PyProof.Rows
section
variable{S O:Type}
inductive Ex(st:S->Option (S⊕O)):Nat->S->O->Prop
 | out {s:S} {o:O} (h:st s=some (.inr o)):Ex st 0 s o
 | go {s s':S} {o:O} {n:Nat} (h:st s=some (.inl s')) (t:Ex st n s' o):Ex st (n+1) s o
inductive Rc(st:S->Option (S⊕O)):Nat->S->S->Prop
 | nil {s:S}:Rc st 0 s s
 | cons {s s' s'':S} {n:Nat} (h:st s=some (.inl s')) (t:Rc st n s' s''):Rc st (n+1) s s''
variable{st:S->Option (S⊕O)}
theorem Ex.det{n n':Nat}{s:S}{o o':O}(a:Ex st n s o)(b:Ex st n' s o'):n=n'/\o=o':=by
 induction a generalizing n' o' with
 | out h=>
  cases b with
  | out h'=>rw[h] at h';cases h';exact ⟨rfl,rfl⟩
  | go h' t=>rw[h] at h';cases h'
 | go h t ih=>
  cases b with
  | out h'=>rw[h] at h';cases h'
  | go h' t'=>
   rw[h] at h';cases h'
   obtain ⟨e,e'⟩:=ih t'
   exact ⟨by omega,e'⟩
theorem Rc.ex{k n:Nat}{s s':S}{o:O}(a:Rc st k s s')(b:Ex st n s o):∃ n',n=n'+k/\Ex st n' s' o:=by
 induction a generalizing n with
 | nil=>exact ⟨n,rfl,b⟩
 | cons h t ih=>
  cases b with
  | out h'=>rw[h] at h';cases h'
  | go h' t'=>
   rw[h] at h';cases h'
   obtain ⟨n',e,q⟩:=ih t'
   exact ⟨n',by omega,q⟩
theorem Rc.snoc{k:Nat}{s s' s'':S}(a:Rc st k s s')(h:st s'=some (.inl s'')):Rc st (k+1) s s'':=by
 induction a with
 | nil=>exact .cons h .nil
 | cons h' t ih=>exact .cons h' (ih h)
theorem Rc.round{m n:Nat}{s:S}{o:O}(a:Rc st (m+1) s s):¬ Ex st n s o:=fun b=>by
 obtain ⟨n',e,q⟩:=a.ex b
 have:=(b.det q).1
 omega
def Res(st:S->Option (S⊕O))(s:S)(r:Option O):Prop:=∀ o,r=some o↔∃ n,Ex st n s o
theorem Res.det{s:S}{r r':Option O}(a:Res st s r)(b:Res st s r'):r=r':=by
 apply Option.ext
 intro o
 exact (a o).trans (b o).symm
theorem Res.out{s:S}{o:O}(h:st s=some (.inr o)):Res st s (some o):=fun o'=>by
 constructor
 · intro e; cases e; exact ⟨0, .out h⟩
 · rintro ⟨n, q⟩; rw [((Ex.out h).det q).2]
theorem Res.step{s s':S}{r:Option O}(h:st s=some (.inl s'))(a:Res st s' r):Res st s r:=fun o=>by
 rw[a o]
 constructor
 ·rintro ⟨n,q⟩;exact ⟨n+1,.go h q⟩
 ·rintro ⟨n,q⟩
  cases q with
  | out h'=>rw[h] at h';cases h'
  | go h' t=>rw[h] at h';cases h';exact ⟨_,t⟩
theorem Res.round{s:S}{m:Nat}(a:Rc st (m+1) s s):Res st s none:=fun o=>by
 constructor
 · intro e; cases e
 · rintro ⟨n, q⟩; exact absurd q a.round
open Classical in
noncomputable def lQ(st:S->Option (S⊕O))(s:S):Option O:=if h:∃ o n,Ex st n s o then some h.choose else none
theorem aB3(st:S->Option (S⊕O))(s:S):Res st s (lQ st s):=fun o=>by
 unfold lQ
 by_cases h:∃ o n,Ex st n s o
 ·rw[dif_pos h]
  obtain ⟨n,q⟩:=h.choose_spec
  constructor
  · intro e; cases e; exact ⟨n, q⟩
  · rintro ⟨n', q'⟩; rw [(q.det q').2]
 ·rw[dif_neg h]
  constructor
  · intro e; cases e
  · rintro ⟨n, q⟩; exact absurd ⟨o, n, q⟩ h
theorem Res.eq{s:S}{r:Option O}(a:Res st s r):r=lQ st s:=a.det (aB3 st s)
structure Und2(st:S->Option (S⊕O))(s0:S)(ps:List S)(s:S):Prop where
 nd:ps.Nodup
 back:∀ p∈ps,∃ m,Rc st (m+1) p s
 res:∀ r,Res st s r->Res st s0 r
theorem Und2.start{s0:S}:Und2 st s0 [] s0:=⟨List.nodup_nil,fun p hp=>by simp at hp,fun r h=>h⟩
theorem Und2.next{s0 s s':S}{ps:List S}(U:Und2 st s0 ps s)(hn:s∉ps)(h:st s=some (.inl s')):Und2 st s0 (ps++[s]) s' where
 nd:=by
  rw[List.nodup_append]
  exact ⟨U.nd,by simp,fun a ha b hb e=>by rw[List.mem_singleton.mp hb] at e;exact hn (e▸ha)⟩
 back:=fun p hp=>by
  rcases List.mem_append.mp hp with q|q
  · obtain ⟨m, r⟩ := U.back p q; exact ⟨m + 1, r.snoc h⟩
  · rw [List.mem_singleton.mp q]; exact ⟨0, .cons h .nil⟩
 res:=fun r a=>U.res r (a.step h)
theorem Und2.met{s0 s:S}{ps:List S}(U:Und2 st s0 ps s)(h:s∈ps):lQ st s0=none:=by
 obtain ⟨m,r⟩:=U.back s h
 exact ((U.res _ (Res.round r)).eq).symm
theorem Und2.outs{s0 s:S}{ps:List S}{o:O}(U:Und2 st s0 ps s)(h:st s=some (.inr o)):lQ st s0=some o:=((U.res _ (Res.out h)).eq).symm
end
abbrev Th:=Option (Int×Int)
structure Tb where
 f:List Th
 a:List Th
def aB4(m:Nat):Th->Prop
 | none=>True
 | some (d,q)=>(d=1\/d = -1)/\0<=q/\q < (m:Int)
structure Tb.good(m:Nat)(t:Tb):Prop where
 lf:t.f.length=m
 la:t.a.length=m
 gf:∀ x∈t.f,aB4 m x
 ga:∀ x∈t.a,aB4 m x
end Mc
namespace Mc
open PySem L2 PyProof.Rows
end Mc
namespace L2
open PySem PySem.Spec PyProof.Rows
def Its(z:Str):It:=⟨fun i _=>i < z.cps.size,fun i H x H'=>H'=H/\∃ c,z.cps[i]? = some c/\x=.str ⟨#[c]⟩,fun i _=>i=z.cps.size⟩
theorem wP{P:Program}{w:World}{K:Frag}{tg:Expr}(z:Str)(t:Tok)(T:String)(hT:∀ A:Around,A.handled=none->∀ it,Walks P w A it [it] [it] z.cps.size (SignAt z) fun i h=>h.IsStrIter it T z t i)
  (hself:∀ (A:Around) (it:Addr) (i:Nat) (s:Shared) (Q E:Value->Shared->Prop),s.heap.IsStrIter it T z t i->Q (.ref it) s->wpAny (model P w) A (pyIter (.ref it)) Q E s)
  (hno:["enumerate","zip","dict_itemiterator","dict_reverseitemiterator","odict_iterator","itertools.zip_longest","itertools.pairwise"].contains T=false) (it:Addr):Turn P w K tg (Its z) [it] it (fun i h=>h.IsStrIter it T z t i) where
 mem:=by simp
 obj:=fun i h st b hb=>by
  obtain rfl:b=it:=by simpa using hb
  obtain ⟨o,e,c,d⟩:=st
  exact ⟨o,e,fun v z=>by rw[d] at z;cases z⟩
 keep:=fun i h h' st k=>by
  obtain ⟨o,e,c,d⟩:=st
  exact ⟨o,k it (by simp) o e,c,d⟩
 item:=by
  intro X hP hw hK hc i pins s σ H E I hf st hg
  subst hP hw hK
  obtain ⟨f0,f1,f2,f3,f4,f5⟩:=hf it (by simp)
  refine (hT X.A (I.ok.hd hc) it).item i s _ E hg st fun v h' tk hv st' kp=>?_
  obtain ⟨c,tc,hcc,rfl⟩:=hv
  have I1:Inv X pins σ H {s with heap:=h',toks:=tk}:=I.turned (t':=tk) (it:=it) (fun b o hb e=>kp b o (by simpa using hb) e) f0 f1 f3 f4 f5
  obtain ⟨o,e,cc,d⟩:=id st'
  exact ⟨_,rfl,vF (s:={s with heap:=h',toks:=tk}) e cc d hno ⟨.str ⟨#[c]⟩,H,I1,⟨_,rfl⟩,⟨rfl,c,hcc,rfl⟩,st',fun b hb=>(hf b hb).1⟩⟩
 done:=by
  intro X hP hw hK hc i pins s σ H E I hf st hg
  subst hP hw hK
  obtain ⟨f0,f1,f2,f3,f4,f5⟩:=hf it (by simp)
  have hg:i=z.cps.size:=hg
  subst hg
  exact (hT X.A (I.ok.hd hc) it).done s _ E st fun h' tk kp=>⟨rfl,I.turned (t':=tk) (it:=it) (fun b o hb e=>kp b o (by simpa using hb) e) f0 f1 f3 f4 f5⟩
 self:=fun A i s Q E st h=>hself A it i s Q E st h
def aME(te:TE):TI:=fun σ H R=>te σ H fun x H1=>∃ z,x=.str z/\R (Its z) H1
theorem aI9{X:Cx}{tg l:Expr}{tl:TE}(hl:PE X l tl):PI X tg l (aME tl):=by
 intro pins s σ H R I h
 refine thn (hl pins s σ H _ I h) fun v s1 zz0=>?_
 obtain ⟨x,H1,I1,r1,q1⟩:=zz0
 obtain ⟨z,e,q⟩:=q1
 subst e
 obtain ⟨t,rfl⟩:=r1
 refine wpAny_pyIter_strU ?_
 have I2:Inv X pins σ H1 {s1 with heap:=s1.heap.push {cls:=.type (strIterType z),data:=.fields #[.str z t,.int 0 0]}}:=I1.kept (t':=s1.toks) fun b o e=>Heap.get?_push_of_some _ e
 have st:(s1.heap.push {cls:=.type (strIterType z),data:=.fields #[.str z t,.int 0 0]}).IsStrIter s1.heap.objs.size (strIterType z) z t 0:=⟨_,Heap.get?_push_size _ rfl,rfl,rfl⟩
 have fin:∀ b∈[s1.heap.objs.size],hU X pins H1 b:=fun b hb=>by
  obtain rfl:=List.mem_singleton.mp hb
  exact I1.fpOk (Nat.le_refl _) (I1.hok.fresh (Nat.le_refl _))
 by_cases ha:(z.cps.all fun x=>decide (x < 128))=true
 ·have eT:strIterType z="str_ascii_iterator":=by unfold strIterType;rw[if_pos ha]
  rw[eT] at st I2 ⊢
  exact ⟨s1.heap.objs.size,[s1.heap.objs.size],_,_,H1,rfl,I2,wP z t "str_ascii_iterator" (fun A hA it=>Walks.strAscii hA it z t) (fun A it i s Q E st h=>wpAny_pyIter_striter_ascii st h) (by decide) _,st,fin,q⟩
 ·have eT:strIterType z="str_iterator":=by unfold strIterType;rw[if_neg ha]
  rw[eT] at st I2 ⊢
  exact ⟨s1.heap.objs.size,[s1.heap.objs.size],_,_,H1,rfl,I2,wP z t "str_iterator" (fun A hA it=>Walks.strWide hA it z t) (fun A it i s Q E st h=>wpAny_pyIter_striter_wide st h) (by decide) _,st,fin,q⟩
end L2
namespace L2
open PySem PySem.Spec PyProof.Rows
structure InK(env:Env)(s₀:Shared)(m cm:Str->Option Value)(s:Shared):Prop where
 ic:InCall s₀ env.locals m s
 cell:∀ n c,env.cells.lookup n=some c->s.heap.IsCell c (cm n)
 inj:∀ n n' c,env.cells.lookup n=some c->env.cells.lookup n'=some c->n=n'
 ne:∀ n c,env.cells.lookup n=some c->c≠env.locals
 up:∀ n c,env.kindOf n=some .cell->env.cells.lookup n=some c->env.locals < c
theorem oQ{α:Type}{x:Str}{l:List (Str×α)}(h:∀ v,(x,v)∉l):l.lookup x=none:=by
 cases e:l.lookup x with
 | none=>rfl
 | some v=>exact absurd (PySem.mem_of_lookup e) (h v)
structure ClAt(h:Heap)(scope:Scope)(cl:List (Str×Addr))(cm:Str->Option Value):Prop where
 cell:∀ n c,cl.lookup n=some c->h.IsCell c (cm n)
 inj:∀ n n' c,cl.lookup n=some c->cl.lookup n'=some c->n=n'
 off:∀ y∈scope.names,y.2=.cell->cl.lookup y.1=none
end L2
namespace L2
open PySem PySem.Spec PyProof.Rows
def FnO(f:Addr)(o:Obj):HO:=.ext fun h=>h.get? f=some o
def aD3(c:Addr)(o:Obj)(v:V):HO:=.frz o (.ext fun h=>∃ u,bH v u/\h.IsCell c (some u))
section
variable{P:Program}{w:World}{H:Hp}{h:Heap}
theorem FnO.ok{f:Addr}{o:Obj}(e:h.get? f=some o):cR P w H h f (FnO f o):=⟨e,⟨o,e⟩,fun h1 h2 q k=>k o q⟩
theorem aD3.ok{c:Addr}{o:Obj}{v:V}{u:Value}(r:bH v u)(e:h.get? c=some o)(hd:o.data=.cell (some u)):cR P w H h c (aD3 c o v):=
 ⟨e,⟨u,r,o,e,hd⟩,⟨o,e⟩,fun h1 h2 ⟨u,r,o,ho,hd⟩ k=>⟨u,r,o,k o ho,hd⟩⟩
end
structure CloScope(N ps fr:List Str)(sc:Scope):Prop where
 kind:sc.kind=.function
 co:sc.isCoroutine=false
 gen:sc.isGenerator=false
 nd:N.Nodup
 pre:N.take (ps++fr).length=ps++fr
 par:∀ x∈ps,sc.names.lookup x=some .local\/sc.names.lookup x=some .cell
 cap:∀ x∈fr,sc.names.lookup x=some .free
 only:∀ y∈sc.names,y.2=.free->y.1∈fr
 off:∀ y∈sc.names,y.2=.cell->y.1∉fr
structure CapAt(H:Hp)(fr:List Str)(cl:List (Str×Addr))(vs:List V):Prop where
 len:vs.length=fr.length
 only:∀ n c,cl.lookup n=some c->n∈fr
 inj:∀ n n' c,cl.lookup n=some c->cl.lookup n'=some c->n=n'
 at':∀ (i:Nat) x v,fr[i]? = some x->vs[i]? = some v->∃ c o,cl.lookup x=some c/\H c=some (aD3 c o v)
noncomputable def aGZ(fr:List Str)(cl:List (Str×Addr)):List Addr:=fr.filterMap fun x=>cl.lookup x
theorem CapAt.same{H H':Hp}{fr:List Str}{cl:List (Str×Addr)}{vs:List V}(a:CapAt H fr cl vs)(s:aO H H'):CapAt H' fr cl vs:=⟨a.len,a.only,a.inj,fun i x v h1 h2=>let ⟨c,o,e,q⟩:=a.at' i x v h1 h2;⟨c,o,e,s _ _ q⟩⟩
end L2
namespace L2
open PySem PySem.Spec PyProof.Rows
structure ClSt where
 name:Str
 qual:Str
 params:Arguments
 body:FuncBody
 scope:Scope
noncomputable def ClSt.fd(S:ClSt)(cl:List (Str×Addr))(doc pm:Value)(c:Addr)(ct:Value):FuncData:=
 {name:=S.name,qualname:=S.qual,params:=S.params,body:=S.body,scope:=S.scope,globals:=mainGlobals,closure:=cl,defaults:=.none,kwdefaults:=.none,doc:=doc,pyModule:=pm,annotations:=none,code:=.ref c,closureTuple:=ct,builtins:=builtinsNs}
abbrev ClSt.obj(S:ClSt)(cl:List (Str×Addr))(doc pm:Value)(c:Addr)(ct:Value):Obj:={cls:=.type "function",data:=.func (S.fd cl doc pm c ct)}
end L2
namespace L2
open PySem PySem.Spec PyProof.Rows
structure ClOf(cells:List (Str×Addr))(sc:Scope)(cl:List (Str×Addr)):Prop where
 of:∀ x c,cl.lookup x=some c->cells.lookup x=some c
 all:∀ x∈sc.names,x.2=.free->∃ c,cl.lookup x.1=some c
 only:∀ x c,cl.lookup x=some c->(x,NameKind.free)∈sc.names
structure Tb(mg:Str->Option Value)(base:Heap)(c0 P0:Addr):Prop where
 hd:PySem.W.CodeHd base c0 P0
 bt:∃ bm ob,mg "__builtins__"=some (.ref bm)/\bm≠builtinsNs/\base.get? bm=some ob/\ob.cls=.type "module"/\ob.dict=some builtinsNs/\ob.data=.plain
end L2
namespace L2
open PySem PySem.Spec PyProof.Rows
abbrev Cv:=List (Addr×Obj×V)
noncomputable def aMF(cv:Cv):List Addr:=cv.map (·.1)
structure PubRel(X:Cx)(σ:St)(H:Hp)(js:List Nat)(cv:Cv):Prop where
 at':∀ b o v,cv.lookup b=some (o,v)->∃ x j,j∈js/\X.N[j]? = some x/\X.env.cells.lookup x=some b/\σ[j]? = some (some v)
 all:∀ j∈js,∃ x c o v,X.N[j]? = some x/\X.env.cells.lookup x=some c/\σ[j]? = some (some v)/\cv.lookup c=some (o,v)
 free:∀ b∈aMF cv,H b=none
 inj:∀ x y c,X.env.cells.lookup x=some c->X.env.cells.lookup y=some c->x=y
end L2
namespace L2
open PySem PySem.Spec PyProof.Rows
end L2
namespace Fl
open PySem L2 PyProof.Rows
mutual
noncomputable def f7:PyData->Bool
 | .none=>true
 | .int _=>true
 | .str x=>PyData.strOk x
 | .tuple xs=>eS xs
 | _=>false
noncomputable def eS:List PyData->Bool
 | []=>true
 | x::t=>f7 x && eS t
end
mutual
noncomputable def gI(w:World):PyData->Int
 | .none=>reduceHash 0xFCA86420
 | .int i=>hashInt i
 | .str x=>hashStr w x
 | .tuple xs=>reduceHash (Builtin.Tuple.tupleHashOf (kO w xs))
 | _=>0
noncomputable def kO(w:World):List PyData->List Int
 | []=>[]
 | x::t=>gI w x::kO w t
end
mutual
noncomputable def fN:PyData->Nat
 | .tuple xs=>kT xs+1
 | _=>1
noncomputable def kT:List PyData->Nat
 | []=>0
 | x::t=>fN x+kT t
end
mutual
theorem pN:∀ {d:PyData},f7 d=true->d.canLay0=true
 | .none,_=>rfl
 | .int _,_=>rfl
 | .str x,h=>h
 | .tuple xs,h=>by
  have h':eS xs=true:=h
  exact wQ h'
theorem wQ:∀ {xs:List PyData},eS xs=true->PyData.canLayAll0 xs=true
 | [],_=>rfl
 | x::t,h=>by
  have h':(f7 x && eS t)=true:=h
  rw[Bool.and_eq_true] at h'
  show (x.canLay0 && PyData.canLayAll0 t)=true
  rw[pN h'.1,wQ h'.2];rfl
end
mutual
theorem sS:∀ {d e:PyData},f7 d=true->f7 e=true->(PyData.eqv d e=true↔d=e)
 | .none,e,_,he=>by cases e<;>simp[PyData.eqv]<;>cases he
 | .int i,e,_,he=>by cases e<;>simp[PyData.eqv]<;>cases he
 | .str x,e,_,he=>by cases e<;>simp[PyData.eqv]<;>cases he
 | .tuple xs,e,hd,he=>by
  have hd':eS xs=true:=hd
  cases e with
  | tuple ys=>
   have he':eS ys=true:=he
   have:=wR hd' he'
   show PyData.eqvAll xs ys=true↔_
   rw[this]
   exact ⟨fun z=>by rw[z],fun z=>by cases z;rfl⟩
  | _=>simp[PyData.eqv]<;>cases he
theorem wR:∀ {xs ys:List PyData},eS xs=true->eS ys=true->(PyData.eqvAll xs ys=true↔xs=ys)
 | [],ys,_,_=>by cases ys<;>simp[PyData.eqvAll]
 | x::t,ys,hx,hy=>by
  have hx':(f7 x && eS t)=true:=hx
  rw[Bool.and_eq_true] at hx'
  cases ys with
  | nil=>simp[PyData.eqvAll]
  | cons y u=>
   have hy':(f7 y && eS u)=true:=hy
   rw[Bool.and_eq_true] at hy'
   rw[PyData.eqvAll,Bool.and_eq_true,sS hx'.1 hy'.1,wR hx'.2 hy'.2]
   exact ⟨fun ⟨a,b⟩=>by rw[a,b],fun z=>by cases z;exact ⟨rfl,rfl⟩⟩
end
noncomputable instance decPyData:DecidableEq PyData:=fun a b=>Classical.propDecidable (a=b)
theorem aG0{d e:PyData}(hd:f7 d=true)(he:f7 e=true):PyData.eqv d e=decide (d=e):=by
 by_cases h:d=e
 ·rw[decide_eq_true h,(sS hd he).mpr h]
 ·rw[decide_eq_false h]
  cases q:PyData.eqv d e with
  | false=>rfl
  | true=>exact absurd ((sS hd he).mp q) h
end Fl
namespace Fl
open PySem L2 PyProof.Rows
theorem aAG(xs:List PyData):fN (.tuple xs)=kT xs+1:=by rw[fN]
theorem t9(A:Around):A.in1.units=A.units+1:=rfl
def j5(prog:Program)(w:World)(E:Value->Shared->Prop)(d:PyData):Prop:=∀ (v:Value) (as:List Addr) (A:Around) (s:Shared) (Q:Int->Shared->Prop),f7 d=true->Reads s.heap v d as->A.units+d.depth < cLine->Q (gI w d) {s with toks:=s.toks+fN d}->
 wpAny (model prog w) A (pyHash v) Q E s
theorem aJA{prog:Program}{w:World}{E:Value->Shared->Prop}:∀ (xs:List PyData) (ih:∀ x∈xs,j5 prog w E x) (vs:List Value) (as:List Addr) (A:Around) (s:Shared) (b:Array Int) (Q:Array Int->Shared->Prop),eS xs=true->ReadsAll s.heap vs xs as->A.units+PyData.depthAll xs < cLine->
  (∀ b',b'.toList=b.toList++kO w xs->Q b' {s with toks:=s.toks+kT xs})->
  wpAny (model prog w) A (forIn vs b fun x r=>do let h <-pyHash x;pure PUnit.unit;pure (ForInStep.yield (r.push h))) Q E s:=by
 intro xs
 induction xs with
 | nil=>
  intro ih vs as A s b Q _ x _ h
  cases x
  exact wpAny_pure (h b (by simp[kO]))
 | cons k xs ih0=>
  intro ih vs as A s b Q hk x hu h
  cases x with
  | @cons v vs _ _ as bs x1 x2=>
   have hk':(f7 k && eS xs)=true:=hk
   rw[Bool.and_eq_true] at hk'
   have hu':A.units+max k.depth (PyData.depthAll xs) < cLine:=hu
   rw[List.forIn_cons]
   refine wpAny_bind (wpAny_bind (ih k List.mem_cons_self _ _ A s _ hk'.1 x1 (by omega) ?_))
   refine wpAny_bind (wpAny_pure (wpAny_pure ?_))
   refine ih0 (fun x hx=>ih x (List.mem_cons_of_mem _ hx)) _ _ A {s with toks:=s.toks+fN k} _ Q hk'.2 x2 (by omega) fun b' hb=>?_
   have q:=h b' (by rw[hb];simp[kO])
   rw[show kT (k::xs)=fN k+kT xs by rw[kT],<-Nat.add_assoc] at q
   exact q
end Fl
namespace Fl
open PySem L2 PyProof.Rows
theorem uA(w:World)(i:Int):gI w (.int i)=hashInt i:=by rw[gI]
theorem uB(w:World)(i:Str):gI w (.str i)=hashStr w i:=by rw[gI]
theorem aB5(w:World)(xs:List PyData):gI w (.tuple xs)=reduceHash (Builtin.Tuple.tupleHashOf (kO w xs)):=by rw[gI]
theorem aAH(i:Int):fN (.int i)=1:=by unfold fN;rfl
theorem aAI(i:Str):fN (.str i)=1:=by unfold fN;rfl
theorem aD4{prog:Program}{w:World}{E:Value->Shared->Prop}(i:Int):j5 prog w E (.int i):=fun v as A s Q _ r _ h=>by
 rw[uA,aAH] at h
 cases r
 exact wpAny_pyHash_int h
theorem aD5{prog:Program}{w:World}{E:Value->Shared->Prop}(i:Str):j5 prog w E (.str i):=fun v as A s Q _ r _ h=>by
 rw[uB,aAI] at h
 cases r
 exact wpAny_pyHash_str h
theorem aD6{prog:Program}{w:World}{E:Value->Shared->Prop}(xs:List PyData)(ih:∀ x∈xs,j5 prog w E x):j5 prog w E (.tuple xs):=fun v as A s Q hk r hu h=>by
 rw[aB5,aAG] at h
 cases r with
 | @tuple a o vs n _ as h1 h2 h3 h4=>
  have hk':eS xs=true:=hk
  have hu':A.units+(PyData.depthAll xs+1) < cLine:=hu
  refine PySem.W.pyHash_slot (T:="tuple") ⟨o,h1,h2⟩ F.slot_tuple_hash F.entry_tuple_hash (F.args_tuple_hash_1 _) (beq_builtin_none _) (.inr (by omega)) ?_
  show wpAny _ _ (Builtin.Tuple.tupleItemsOf (.ref a) >>= _) _ _ s
  refine wpAny_bind (wpAny_tupleItemsOf h1 h3 ?_)
  refine wpAny_bind ?_
  rw[<-Array.forIn_toList]
  refine aJA xs ih vs.toList as A.in1 s #[] _ hk' h4 (by rw[t9];omega) fun b hb=>?_
  show wpAny _ _ (retInt (Builtin.Tuple.tupleHashOf b.toList)) _ _ _
  rw[hb]
  exact wpAny_bind (wpAny_mkInt (wpAny_pure ⟨_,_,rfl,h⟩))
end Fl
namespace Fl
open PySem L2 PyProof.Rows
theorem aAJ(w:World):gI w .none=reduceHash 0xFCA86420:=by rw[gI]
theorem yB:fN .none=1:=by unfold fN;rfl
theorem aD7{prog:Program}{w:World}{E:Value->Shared->Prop}:j5 prog w E .none:=fun v as A s Q _ r hu h=>by
 rw[aAJ,yB] at h
 generalize hg:reduceHash 0xFCA86420=g at h
 cases r
 refine PySem.W.pyHash_slot (T:="NoneType") rfl F.slot_NoneType_hash F.entry_NoneType_hash (F.args_NoneType_hash_1 _) (beq_builtin_none _) (.inr (by omega)) (wpAny_bind (wpAny_pure (wpAny_bind (wpAny_mkInt (wpAny_pure ⟨0xFCA86420,_,rfl,?_⟩)))))
 rw[hg]
 exact h
end Fl
namespace Fl
open PySem L2 PyProof.Rows
theorem aJB{prog:Program}{w:World}{E:Value->Shared->Prop}:∀ (n:Nat) (d:PyData),sizeOf d<=n->j5 prog w E d:=by
 intro n
 induction n with
 | zero=>intro d h;cases d<;>simp at h
 | succ n ih=>
  intro d h
  cases d with
  | none=>exact aD7
  | int i=>exact aD4 i
  | str x=>exact aD5 x
  | tuple xs=>
   refine aD6 xs fun x hx=>ih x ?_
   have:=List.sizeOf_lt_of_mem hx
   simp only[PyData.tuple.sizeOf_spec] at h
   omega
  | bool b=>exact fun v as A s Q hk=>nomatch hk
  | list xs=>exact fun v as A s Q hk=>nomatch hk
  | dict xs=>exact fun v as A s Q hk=>nomatch hk
theorem aJC{prog:Program}{w:World}{E:Value->Shared->Prop}(d:PyData):j5 prog w E d:=aJB (sizeOf d) d (Nat.le_refl _)
theorem aG1{M:Model}{A:Around}{E:Value->Shared->Prop}{s:Shared}:∀ (n:Nat) (d:PyData) (v:Value) (as:List Addr) (Q:Bool->Shared->Prop),f7 d=true->Reads s.heap v d as->d.depth<=n->Q true s->wpAny M A (eqIsQuiet n v) Q E s:=by
 intro n
 induction n with
 | zero=>
  intro d v as Q hk r hd h
  cases d with
  | none=>cases r;rw[eqIsQuiet_byValue _ rfl];exact wpAny_pure h
  | int i=>cases r;rw[eqIsQuiet_byValue _ rfl];exact wpAny_pure h
  | str x=>cases r;rw[eqIsQuiet_byValue _ rfl];exact wpAny_pure h
  | tuple xs=>
   have hd':PyData.depthAll xs+1<=0:=hd
   omega
  | bool b=>exact nomatch hk
  | list xs=>exact nomatch hk
  | dict xs=>exact nomatch hk
 | succ n ih=>
  intro d v as Q hk r hd h
  cases d with
  | none=>cases r;rw[eqIsQuiet_byValue _ rfl];exact wpAny_pure h
  | int i=>cases r;rw[eqIsQuiet_byValue _ rfl];exact wpAny_pure h
  | str x=>cases r;rw[eqIsQuiet_byValue _ rfl];exact wpAny_pure h
  | bool b=>exact nomatch hk
  | list xs=>exact nomatch hk
  | dict xs=>exact nomatch hk
  | tuple xs=>
   cases r with
   | @tuple a o vs m _ as h1 h2 h3 h4=>
    have hk':eS xs=true:=hk
    have hd':PyData.depthAll xs+1<=n+1:=hd
    have hT:s.TypeIs (.ref a) "tuple":=⟨o,h1,h2⟩
    unfold eqIsQuiet
    refine wpAny_bind (wpAny_specialOf hT F.slot_tuple_eq.lookup ?_)
    show wpAny _ _ (isInstance (.ref a) (.type "tuple") >>= _) _ _ s
    refine wpAny_bind (wpAny_isInstance hT isSubtype_tuple_tuple ?_)
    simp only[Bool.not_true,Bool.false_eq_true,if_false]
    refine wpAny_bind (wpAny_seqItems h1 h3 ?_)
    refine wpAny_bind ?_
    show wpAny _ _ (forIn vs _ _) _ _ s
    rw[<-Array.forIn_toList]
    refine wpAny_forIn_list _ (fun rest r s'=>r.1=none/\s'=s/\∃ ys bs,eS ys=true/\PyData.depthAll ys<=n/\ReadsAll s.heap rest ys bs) _ ?_ ?_ _ _ ⟨rfl,rfl,xs,_,hk',by omega,h4⟩
    ·rintro v rest r s' ⟨hr,rfl,ys,bs,hy,hdy,ry⟩
     cases ry with
     | @cons _ _ y yt cs ds r1 r2=>
      have hy':(f7 y && eS yt)=true:=hy
      rw[Bool.and_eq_true] at hy'
      have hdy':max y.depth (PyData.depthAll yt)<=n:=hdy
      refine wpAny_bind (ih y v _ _ hy'.1 r1 (by omega) ?_)
      simp only[Bool.not_true,Bool.false_eq_true,if_false]
      exact wpAny_pure ⟨rfl,rfl,yt,_,hy'.2,by omega,r2⟩
    ·rintro ⟨r1,r2⟩ s' ⟨hr,rfl,_⟩
     simp only at hr
     subst hr
     exact wpAny_pure h
def aMG(h:Heap)(d:PyData)(a:Addr):Prop:=f7 d=true/\d.depth<=8/\∃ as,Reads h (.ref a) d as
theorem aAK{h h':Heap}{a:Addr}{o:Obj}{es:Array DictEntry}{ep:Nat}(ho:h.get? a=some o)(hd:o.data=.dict es ep)(hs:Heap.SameBut a h h'){v:Value}{d:PyData}{as:List Addr}(hk:f7 d=true)(r:Reads h v d as):Reads h' v d as:=by
 refine Reads.rec (motive_1:=fun v d as _=>f7 d=true->Reads h' v d as) (motive_2:=fun vs xs as _=>eS xs=true->ReadsAll h' vs xs as) ?_ ?_ ?_ ?_ ?_ ?_ ?_ ?_ ?_ r hk
 ·exact fun _=>.none
 ·intro b hk;cases hk
 ·exact fun i t _=>.int i t
 ·exact fun i t _=>.str i t
 ·intro b o' vs n xs as h1 h2 h3 h4 ih hk;cases hk
 ·intro b o' vs n xs as h1 h2 h3 h4 ih hk
  exact .tuple ((hs.2 b (fun z=>by subst z;rw[ho] at h1;cases h1;rw[hd] at h3;cases h3)).trans h1) h2 h3 (ih hk)
 ·intro b o' es' n kvs as bs h1 h2 h3 h4 h5 i1 i2 hk;cases hk
 ·exact fun _=>.nil
 ·intro v vs d ds as bs r1 r2 i1 i2 hk
  exact .cons (i1 ((Bool.and_eq_true ..).mp hk).1) (i2 ((Bool.and_eq_true ..).mp hk).2)
noncomputable def jJ(prog:Program)(w:World):HeapKind prog w PyData where
 is:=aMG
 hash:=gI w
 draws:=fN
 room:=fun A=>A.units+9 < cLine
 inj:=fun {h a x y} hx hy=>by
  obtain ⟨k1,_,as,r1⟩:=hx
  obtain ⟨k2,_,bs,r2⟩:=hy
  exact PySem.SeqAt.Reads.unique x y _ _ _ (pN k1) r1 r2
 keeps:=fun {h h' k a d o es ep} hx ho hd hs=>by
  obtain ⟨k1,k2,as,r1⟩:=hx
  exact ⟨k1,k2,as,aAK ho hd hs k1 r1⟩
 pyHash:=fun {A E s k a Q} hu hk h=>by
  obtain ⟨k1,k2,as,r1⟩:=hk
  exact aJC k _ as A s Q k1 r1 (by omega) h
 eqBool:=fun {A E s x y a b Q} hu hx hy h=>by
  obtain ⟨k1,k2,as,r1⟩:=hx
  obtain ⟨l1,l2,bs,r2⟩:=hy
  refine PySem.SeqAt.eqAt_reads x y A s _ _ as bs r1 r2 (pN k1) (pN l1) ?_ prog w E Q ?_
  ·have:min x.depth y.depth<=8:=Nat.le_trans (Nat.min_le_left _ _) k2
   omega
  ·rw[aG0 k1 l1];exact h
 quiet:=fun {A E s k a Q} hk h=>by
  obtain ⟨k1,k2,as,r1⟩:=hk
  exact aG1 8 k _ as Q k1 r1 k2 h
end Fl
namespace Fl
open PySem L2 PyProof.Rows
abbrev Ent:=PyData×V×V
def pO(w:World)(p:Ent)(en:DictEntry):Prop:=en.hash=gI w p.1/\bH p.2.1 en.key/\bH p.2.2 en.val
def jK(w:World)(a:Addr)(es:List Ent)(ep:Nat):HO:=.ext fun h=>(a == sysModules)=false/\∃ o ar,h.get? a=some o/\o.ExactDict/\o.data=.dict ar ep/\Paired (pO w) es ar.toList
theorem sT{P:Program}{w:World}{H:Hp}{h:Heap}{a:Addr}{es:List Ent}{ep:Nat}(hd:(a == sysModules)=false)(hh:∃ o ar,h.get? a=some o/\o.ExactDict/\o.data=.dict ar ep/\Paired (pO w) es ar.toList):cR P w H h a (jK w a es ep):=
 ⟨⟨hd,hh⟩,let ⟨o,_,e,_⟩:=hh;⟨o,e⟩,fun h1 h2 ⟨q,o,es,e,r⟩ kp=>⟨q,o,es,kp _ e,r⟩⟩
noncomputable def sU:PyData->Bool
 | .tuple xs=>f7 (.tuple xs) && decide ((PyData.tuple xs).depth<=8)
 | _=>false
noncomputable def aD8:PyData->Bool
 | .int _=>true
 | .str _=>true
 | _=>false
def eD(k:PyData)(ks:List PyData):Bool:=(sU k && ks.all sU) || (aD8 k && ks.all aD8)
theorem aG2{d:PyData}(h:sU d=true):∃ xs,d=.tuple xs/\f7 d=true/\d.depth<=8:=by
 cases d with
 | tuple xs=>
  have h':(f7 (.tuple xs) && decide ((PyData.tuple xs).depth<=8))=true:=h
  rw[Bool.and_eq_true] at h'
  exact ⟨xs,rfl,h'.1,of_decide_eq_true h'.2⟩
 | _=>cases h
def iX:Key->PyData
 | .inl i=>.int i
 | .inr x=>.str x
theorem yT{d:PyData}(h:aD8 d=true):∃ k,d=iX k:=by
 cases d with
 | int i=>exact ⟨.inl i,rfl⟩
 | str i=>exact ⟨.inr i,rfl⟩
 | _=>cases h
theorem uC{a b:Key}(h:iX a=iX b):a=b:=by
 cases a<;>cases b<;>cases h<;>rfl
theorem yU{K:Frag}{H:Hp}{v:V}{k:Key}(h:DatV K H v (iX k)):v=kV k:=by
 cases k with
 | inl i=>exact h.int_of
 | inr x=>exact h.str_of
theorem wS{P:Program}{w:World}(k:Key):gI w (iX k)=(dN P w).hash k:=by
 cases k with
 | inl i=>exact uA w i
 | inr x=>exact uB w x
def sV:Ent->(PyData×Addr×Value)->Prop:=fun e x=>e.1=x.1/\e.2.1=.ref x.2.1/\bH e.2.2 x.2.2
def sW:Ent->(Key×Value)->Prop:=fun e x=>e.1=iX x.1/\e.2.1=kV x.1/\bH e.2.2 x.2
theorem aB6{P:Program}{w:World}:∀ {es:List Ent} {ens:List DictEntry},Paired (pO w) es ens->(∀ e∈es,∃ b,e.2.1=.ref b)->∃ xs,ens=xs.map (entryOfKey (jJ P w))/\Paired sV es xs
 | _,_,.nil,_=>⟨[],rfl,.nil⟩
 | e::es,en::ens,.cons h t,hb=>by
  obtain ⟨xs,h1,h2⟩:=aB6 (P:=P) t fun e he=>hb e (List.mem_cons_of_mem _ he)
  obtain ⟨b,hb'⟩:=hb e List.mem_cons_self
  obtain ⟨q1,q2,q3⟩:=h
  rw[hb'] at q2
  obtain ⟨hash,key,val⟩:=en
  have q2':key=Value.ref b:=q2
  have q1':hash=gI w e.1:=q1
  subst q2' q1'
  exact ⟨(e.1,b,val)::xs,by rw[List.map_cons,h1];rfl,.cons ⟨rfl,hb',q3⟩ h2⟩
theorem wT{P:Program}{w:World}:∀ {es:List Ent} {xs:List (PyData×Addr×Value)},Paired sV es xs->Paired (pO w) es (xs.map (entryOfKey (jJ P w)))
 | _,_,.nil=>.nil
 | _,_,.cons h t=>.cons ⟨by rw[h.1];rfl,by rw[h.2.1];rfl,h.2.2⟩ (wT t)
theorem aB7{P:Program}{w:World}:∀ {es:List Ent} {ens:List DictEntry},Paired (pO w) es ens->(∀ e∈es,∃ k,e.1=iX k/\e.2.1=kV k)->∃ xs,Pairs (dN P w) ens xs/\Paired sW es xs/\∀ en∈ens,∃ k,(dN P w).is k en.key=true/\en.hash=(dN P w).hash k
 | _,_,.nil,_=>⟨[],.nil,.nil,fun _ h=>by cases h⟩
 | e::es,en::ens,.cons h t,hb=>by
  obtain ⟨xs,h1,h2,h3⟩:=aB7 (P:=P) t fun e he=>hb e (List.mem_cons_of_mem _ he)
  obtain ⟨k,hk1,hk2⟩:=hb e List.mem_cons_self
  obtain ⟨q1,q2,q3⟩:=h
  have hi:(dN P w).is k en.key=true:=aFP (by rw[<-hk2];exact q2)
  refine ⟨(k,en.val)::xs,.cons hi rfl h1,.cons ⟨hk1,hk2,q3⟩ h2,fun en' hen=>?_⟩
  rcases List.mem_cons.mp hen with z|z
  · subst z; exact ⟨k, hi, by rw [q1, hk1, wS (P := P)]⟩
  · exact h3 en' z
theorem aG3{P:Program}{w:World}{k:Key}{v:Value}(h:(dN P w).is k v=true):bH (kV k) v:=by
 rcases keyIs_shape h with ⟨i,t,rfl,rfl⟩|⟨x,t,rfl,rfl⟩
 · exact ⟨t, rfl⟩
 · exact ⟨t, rfl⟩
theorem wU{P:Program}{w:World}:∀ {es:List Ent} {xs:List (Key×Value)} {ens:List DictEntry},Paired sW es xs->Pairs (dN P w) ens xs->(∀ en∈ens,∃ k,(dN P w).is k en.key=true/\en.hash=(dN P w).hash k)->Paired (pO w) es ens
 | _,_,_,.nil,.nil,_=>.nil
 | _,_,_,.cons h t,.cons p1 p2 ps,hk=>by
  obtain ⟨k,hk1,hk2⟩:=hk _ List.mem_cons_self
  obtain rfl:=(dN P w).inj _ _ _ hk1 p1
  refine .cons ⟨by rw[hk2,h.1,wS (P:=P)],by rw[h.2.1];exact aG3 hk1,by rw[p2];exact h.2.2⟩ (wU t ps fun en he=>hk en (List.mem_cons_of_mem _ he))
noncomputable def atE(es:List Ent)(k:PyData):Option V:=(es.find? fun e=>decide (e.1=k)).map (·.2.2)
noncomputable def oR(es:List Ent)(k:PyData)(kv v:V):List Ent:=if (atE es k).isSome then es.map (fun e=>if e.1=k then (e.1,e.2.1,v) else e) else es++[(k,kv,v)]
theorem wV{k:PyData}:∀ {es:List Ent} {xs:List (PyData×Addr×Value)},Paired sV es xs->f6 (atE es k) ((atKey xs k).map (·.2))
 | _,_,.nil=>trivial
 | e::es,x::xs,.cons h t=>by
  have ih:=wV (k:=k) t
  unfold atE atKey at ih ⊢
  rw[List.find?_cons,List.find?_cons,h.1]
  by_cases q:x.1=k
  · rw [decide_eq_true q]; exact h.2.2
  · rw [decide_eq_false q]; exact ih
theorem wW{k:Key}:∀ {es:List Ent} {xs:List (Key×Value)},Paired sW es xs->f6 (atE es (iX k)) (valueAt xs k)
 | _,_,.nil=>trivial
 | e::es,x::xs,.cons h t=>by
  have ih:=wW (k:=k) t
  unfold atE valueAt at ih ⊢
  rw[List.find?_cons,List.find?_cons,h.1]
  by_cases q:x.1=k
  · rw [decide_eq_true q, decide_eq_true (by rw [q])]; exact h.2.2
  · rw [decide_eq_false q, decide_eq_false (fun z => q (uC z))]; exact ih
theorem lR{o:Option V}{u:Option Value}(h:f6 o u):o.isSome=u.isSome:=by
 cases o<;>cases u<;>first|rfl|exact h.elim
theorem m9{α β:Type}{f:α->β->Prop}{g:α->α}{k:β->β}(hg:∀ a b,f a b->f (g a) (k b)):∀ {xs:List α} {ys:List β},Paired f xs ys->Paired f (xs.map g) (ys.map k)
 | _,_,.nil=>.nil
 | _,_,.cons h t=>.cons (hg _ _ h) (m9 hg t)
theorem nA{α β:Type}{f:α->β->Prop}{a:α}{b:β}(h:f a b):∀ {xs:List α} {ys:List β},Paired f xs ys->Paired f (xs++[a]) (ys++[b])
 | _,_,.nil=>.cons h .nil
 | _,_,.cons q t=>.cons q (nA h t)
theorem aK7{k:PyData}{b:Addr}{v:V}{u:Value}{es:List Ent}{xs:List (PyData×Addr×Value)}(r:bH v u)(h:Paired sV es xs):Paired sV (oR es k (.ref b) v) (storedH xs k b u):=by
 have q:=lR (wV (k:=k) h)
 rw[Option.isSome_map] at q
 unfold oR storedH
 rw[q]
 cases (atKey xs k).isSome with
 | true=>
  rw[if_pos rfl,if_pos rfl]
  refine m9 (fun e x hx=>?_) h
  unfold putAt
  rw[hx.1]
  by_cases z:x.1=k
  · rw [if_pos z, if_pos z]; exact ⟨rfl, hx.2.1, r⟩
  · rw [if_neg z, if_neg z]; exact hx
 | false=>rw[if_neg (by decide),if_neg (by decide)];exact nA ⟨rfl,rfl,r⟩ h
theorem aFR{k:Key}:∀ {xs:List (Key×Value)},xs.any (fun kv=>decide (kv.1=k))=(valueAt xs k).isSome
 | []=>rfl
 | x::xs=>by
  have ih:=aFR (k:=k) (xs:=xs)
  unfold valueAt at ih ⊢
  rw[List.any_cons,List.find?_cons]
  by_cases q:x.1=k
  · rw [decide_eq_true q]; rfl
  · rw [decide_eq_false q, Bool.false_or]; exact ih
theorem aK8{k:Key}{v:V}{u:Value}{es:List Ent}{xs:List (Key×Value)}(r:bH v u)(h:Paired sW es xs):Paired sW (oR es (iX k) (kV k) v) (stored xs k u):=by
 have q:=lR (wW (k:=k) h)
 unfold oR stored
 rw[q,aFR]
 cases (valueAt xs k).isSome with
 | true=>
  rw[if_pos rfl,if_pos rfl]
  refine m9 (fun e x hx=>?_) h
  by_cases z:x.1=k
  · rw [if_pos z, if_pos (by rw [hx.1, z])]; exact ⟨by rw [hx.1], hx.2.1, r⟩
  · rw [if_neg z, if_neg (fun y => z (uC (hx.1.symm.trans y)))]; exact hx
 | false=>rw[if_neg (by decide),if_neg (by decide)];exact nA ⟨rfl,rfl,r⟩ h
section
variable{X:Cx}{pins:List (Addr×Obj)}{σ:L2.St}{H:Hp}{s:Shared}{a:Addr}{es:List Ent}{k:PyData}{kv v:V}{ku u:Value}{A:Around}{E:Value->Shared->Prop}
structure DicAt(X:Cx)(H:Hp)(a:Addr)(es:List Ent)(k:PyData)(kv:V):Prop where
 o:∃ ep,H a=some (jK X.w a es ep)
 ks:∀ e∈es,DatV X.K H e.2.1 e.1
 nd:(es.map (·.1)).Nodup
 dk:DatV X.K H kv k
 one:eD k (es.map (·.1))=true
theorem rJ{α β:Type}{f:α->β->Prop}{y:β}:∀ {xs:List α} {ys:List β},Paired f xs ys->y∈ys->∃ x,x∈xs/\f x y
 | _,_,.nil,h=>by cases h
 | _,_,.cons q t,h=>by
  rcases List.mem_cons.mp h with z|z
  ·subst z;exact ⟨_,List.mem_cons_self,q⟩
  ·obtain ⟨x,h1,h2⟩:=rJ t z
   exact ⟨x,List.mem_cons_of_mem _ h1,h2⟩
theorem nB{α β γ:Type}{f:α->β->Prop}{g:α->γ}{k:β->γ}(h:∀ a b,f a b->g a=k b):∀ {xs:List α} {ys:List β},Paired f xs ys->xs.map g=ys.map k
 | _,_,.nil=>rfl
 | _,_,.cons q t=>by rw[List.map_cons,List.map_cons,h _ _ q,nB h t]
theorem uD{α β:Type}{f:α->β}:∀ {xs:List α},(xs.map f).Nodup->xs.Nodup
 | [],_=>List.nodup_nil
 | x::t,h=>by
  rw[List.map_cons,List.nodup_cons] at h
  exact List.nodup_cons.mpr ⟨fun z=>h.1 (List.mem_map_of_mem z),uD h.2⟩
theorem DicAt.cases (D : DicAt X H a es k kv) (I : Inv X pins σ H s) (rk : bH kv ku) : (a == sysModules) = false /\
    ((∃ b xs, kv = .ref b /\ ku = .ref b /\ Paired sV es xs /\ (jJ X.prog X.w).is s.heap k b /\ s.heap.DictOfH (jJ X.prog X.w) a xs) \/
     (∃ kk xs, k = iX kk /\ kv = kV kk /\ Paired sW es xs /\ (dN X.prog X.w).is kk ku = true /\ s.heap.DictOf (dN X.prog X.w) a xs)) := by
  obtain ⟨ep, hO⟩ := D.o
  obtain ⟨⟨hd, o, ar, h1, h2, h3, h4⟩, _, _⟩ := (show cR X.prog X.w H s.heap a (jK X.w a es ep) from I.hok a _ hO)
  refine ⟨hd, ?_⟩
  have hone := D.one
  unfold eD at hone
  rw [Bool.or_eq_true, Bool.and_eq_true, Bool.and_eq_true, List.all_eq_true, List.all_eq_true] at hone
  rcases hone with ⟨hk, ha⟩ | ⟨hk, ha⟩
  · have key : ∀ (d : PyData) (v : V), sU d = true -> DatV X.K H v d -> ∃ b', v = .ref b' /\ (jJ X.prog X.w).is s.heap d b' := fun d v hd hv => by
      obtain ⟨ws, rfl, q1, q2⟩ := aG2 hd
      obtain ⟨b', vs, rfl, _, _⟩ := hv.tup_of
      obtain ⟨as, r⟩ := hv.reads I (u := .ref b') rfl
      exact ⟨b', rfl, q1, q2, as, r⟩
    obtain ⟨b, rfl, hkb⟩ := key _ _ hk D.dk
    cases (show ku = Value.ref b from rk)
    obtain ⟨xs, hx1, hx2⟩ := aB6 (P := X.prog) h4 fun e he => by
      obtain ⟨b', e1, _⟩ := key e.1 e.2.1 (ha _ (List.mem_map_of_mem he)) (D.ks e he)
      exact ⟨b', e1⟩
    refine .inl ⟨b, xs, rfl, rfl, hx2, hkb, o, ar, ep, h1, h2, h3, hx1, fun x hx => ?_, ?_⟩
    · obtain ⟨e, he, hex⟩ := rJ hx2 hx
      obtain ⟨b', e1, q⟩ := key e.1 e.2.1 (ha _ (List.mem_map_of_mem he)) (D.ks e he)
      rw [hex.2.1] at e1
      cases e1
      rw [<- hex.1]; exact q
    · rw [<- nB (g := fun e : Ent => e.1) (fun a b h => h.1) hx2]; exact D.nd
  · obtain ⟨kk, rfl⟩ := yT hk
    have hkv := yU D.dk
    obtain ⟨xs, hx1, hx2, hx3⟩ := aB7 (P := X.prog) h4 fun e he => by
      obtain ⟨k', hk'⟩ := yT (ha _ (List.mem_map_of_mem he))
      have q := D.ks e he
      rw [hk'] at q
      exact ⟨k', hk', yU q⟩
    refine .inr ⟨kk, xs, rfl, hkv, hx2, aFP (by rw [<- hkv]; exact rk), o, ar, ep, h1, h2, h3, fun en hen => hx3 en (by simpa using hen), hx1, ?_⟩
    have : es.map (·.1) = (xs.map (·.1)).map iX := by rw [List.map_map]; exact nB (g := fun e : Ent => e.1) (fun a b h => h.1) hx2
    have nd := D.nd
    rw [this] at nd
    exact uD nd
theorem uE{A:Around}(hu:A.units+64 < cLine):(jJ X.prog X.w).room A.in1:=by show A.in1.units+9 < cLine;rw[t9];omega
theorem aG4{Q:Value->Shared->Prop}(hu:A.units+64 < cLine)(D:DicAt X H a es k kv)(I:Inv X pins σ H s)(rk:bH kv ku)(h:∀ s',Inv X pins σ H s'->Q (.bool (!(atE es k).isSome)) s'):wpAny (model X.prog X.w) A (compareOp .NotIn ku (.ref a)) Q E s:=by
 obtain ⟨hd,⟨b,xs,rfl,rfl,hx,hk,dd⟩|⟨kk,xs,rfl,rfl,hx,hk,dd⟩⟩:=D.cases I rk
 ·refine wpAny_notIn_heap (uE hu) hk hd dd ?_
  have q:=lR (wV (k:=k) hx)
  rw[Option.isSome_map] at q
  rw[<-q];exact h _ (I.tok _)
 ·refine wpAny_notIn_of hk hd dd.mapOf ?_
  rw[<-lR (wW (k:=kk) hx)];exact h _ (I.tok _)
theorem aG5{Q:Unit->Shared->Prop}(hu:A.units+64 < cLine)(D:DicAt X H a es k kv)(I:Inv X pins σ H s)(rk:bH kv ku)(rv:bH v u)(hz:es.length<=sizeLine)(h:∀ ep s',Inv X pins σ (upd H a (jK X.w a (oR es k kv v) ep)) s'->Q () s') :
  wpAny (model X.prog X.w) A (setItem (.ref a) ku u) Q E s:=by
 obtain ⟨hd,⟨b,xs,rfl,rfl,hx,hk,dd⟩|⟨kk,xs,rfl,rfl,hx,hk,dd⟩⟩:=D.cases I rk
 ·have hl:xs.length<=sizeLine:=by rw[<-Paired.length hx];exact hz
  refine wpAny_setItem_heap (hsz:=hl) (uE hu) hk dd fun h' dd' hs=>?_
  obtain ⟨q',ar,ep,hq,h2,h3,h4,_,h5⟩:=dd'
  obtain ⟨ep0,hO⟩:=D.o
  refine h ep _ (yS I (by rw[hO];exact True.intro) hs ⟨q',hq⟩ (sT hd ⟨q',ar,hq,h2,h3,?_⟩))
  rw[h4]
  exact wT (aK7 rv hx)
 ·have hl:xs.length<=sizeLine:=by rw[<-Paired.length hx];exact hz
  refine wpAny_setItem_pairs (hsz:=hl) hk dd fun h' dd' hs=>?_
  obtain ⟨q',ar,ep,hq,h2,h3,h4,h5,_⟩:=dd'
  obtain ⟨ep0,hO⟩:=D.o
  refine h ep _ (yS I (by rw[hO];exact True.intro) hs ⟨q',hq⟩ (sT hd ⟨q',ar,hq,h2,h3,?_⟩))
  exact wU (aK8 rv hx) h5 fun en hen=>h4 en (by simpa using hen)
end
end Fl
namespace Fl
open PySem L2 PyProof.Rows
structure Er where
 c:Str
 fs:List (Str×PyData)
inductive R(α:Type) where
 | bad|ok (a:α)|ex (e:Er)
noncomputable def R.bind{α β:Type}:R α->(α->R β)->R β
 | .bad,_=>.bad
 | .ok a,f=>f a
 | .ex e,_=>.ex e
@[simp] theorem R.bind_ok{α β:Type}(a:α)(f:α->R β):(R.ok a).bind f=f a:=id rfl
@[simp] theorem R.bind_bad{α β:Type}(f:α->R β):(R.bad:R α).bind f=.bad:=id rfl
@[simp] theorem R.bind_ex{α β:Type}(e:Er)(f:α->R β):(R.ex e:R α).bind f=.ex e:=id rfl
inductive A where
 | d (x:PyData)|l (xs:List PyData)|m (kvs:List (PyData×PyData))|x (e:Er)|g (k n:Nat) (f:List PyData->R PyData)|k (q:Str)|f (kvs:List (PyData×PyData))|o (e:Er)
abbrev Sg:=List (Option A)
structure Gb where
 B:Addr->Hp->Nat->Nat->(List PyData->R PyData)->Prop
 T:Hp
 w:World
structure Ct where
 K:Frag
 mg:Str->Option Value
 w:World
 F0:Hp
 H0:Hp
 g:Gb
 cells:List (Str×Addr)
 cls:Str->Option ClSt
theorem aD9{w:World}{p:Addr}{es:List Ent}{ep:Nat}{q:Str}(h:jK w p es ep=.cod q):False:=by unfold jK at h;cases h
theorem cU(H:Hp):aO H H:=fun _ _ h=>h
theorem cA{H H':Hp}(s:aO H H'){a:Addr}(h:H' a=none):H a=none:=by
 cases e:H a with
 | none=>rfl
 | some o=>rw[s a o e] at h;cases h
def rK(H:Hp)(a:Addr):Prop:=H a=none\/∃ q,H a=some (.cod q)
theorem rK.back{H H1:Hp}{a:Addr}(s:aO H H1)(h:rK H1 a):rK H a:=by
 cases e:H a with
 | none=>exact .inl e
 | some o=>
  have e1:=s a o e
  rcases h with z|⟨q,z⟩
  · rw [e1] at z; cases z
  · rw [e1] at z; cases z; exact .inr ⟨q, e⟩
structure Ext(F H F' H':Hp):Prop where
 hh:aO H H'
 ff:aO F F'
 fh:aO F' H'
 nw:∀ a,F a=none->F' a≠none->rK H a
theorem Ext.refl{F H:Hp}(h:aO F H):Ext F H F H:=⟨cU H,cU F,h,fun a e n=>absurd e n⟩
theorem Ext.trans{F H F1 H1 F2 H2:Hp}(a:Ext F H F1 H1)(b:Ext F1 H1 F2 H2):Ext F H F2 H2:=
 ⟨fun x o e=>b.hh x o (a.hh x o e),fun x o e=>b.ff x o (a.ff x o e),b.fh,fun x e n=>by
  cases q:F1 x with
  | none=>exact (b.nw x q n).back a.hh
  | some o=>exact a.nw x e (by rw[q];exact fun z=>nomatch z)⟩
theorem Ext.stay{F H F' H':Hp}(s:Ext F H F' H'){p:Addr}{o:HO}(h3:F p=none)(h2:H p=some o)(hno:∀ q,o≠.cod q):F' p=none:=by
 cases q:F' p with
 | none=>rfl
 | some o=>
  rcases s.nw p h3 (by rw[q];exact fun z=>nomatch z) with z|⟨q',z⟩
  · rw [z] at h2; cases h2
  · rw [z] at h2; cases h2; exact absurd rfl (hno _)
theorem aEA{F H:Hp}{p:Addr}{o:HO}(s:aO F H):aO (upd F p o) (upd H p o):=fun a u e=>by
 by_cases q:a=p
 · subst q; rw [aW] at e ⊢; exact e
 · rw [aK q] at e ⊢; exact s a u e
theorem Ext.new{F H:Hp}{p:Addr}{o:HO}(s:aO F H)(hp:H p=none):Ext F H (upd F p o) (upd H p o):=
 ⟨aO.upd hp,aO.upd (cA s hp),aEA s,fun a e n=>by
  by_cases q:a=p
  · subst q; exact .inl hp
  · rw [aK q] at n; exact absurd e n⟩
theorem Ext.own{F H:Hp}{p:Addr}{o:HO}(s:aO F H)(hp:H p=none):Ext F H F (upd H p o):=
 ⟨aO.upd hp,cU F,fun a u e=>by
  rw[aK (cN (s a u e) hp)];exact s a u e,fun a e n=>absurd e n⟩
def nC(K:Frag)(mg:Str->Option Value)(F:Hp)(e:Er)(a C:Addr):Prop:=mg e.c=some (.ref C)/\∃ od,F a=some (ExO a C od)/\((e.fs=[]/\od=none)\/∃ d fvs,od=some d/\F d=some (.xd fvs)/\fvs.map (·.1)=e.fs.map (·.1)/\DatVs K F (fvs.map (·.2)) (e.fs.map (·.2)))
theorem nC.same{K:Frag}{mg:Str->Option Value}{F F':Hp}{e:Er}{a C:Addr}(s:aO F F')(h:nC K mg F e a C):nC K mg F' e a C:=by
 obtain ⟨m,od,h1,h2⟩:=h
 refine ⟨m,od,s _ _ h1,h2.imp id ?_⟩
 rintro ⟨d,fvs,e1,e2,e3,e4⟩
 exact ⟨d,fvs,e1,s _ _ e2,e3,e4.same s⟩
def aAL(K:Frag)(mg:Str->Option Value)(F:Hp)(e:Er)(a:Addr):Prop:=∃ C dx fvs,mg e.c=some (.ref C)/\F a=some (.ins C dx fvs)/\fvs.map (·.1)=e.fs.map (·.1)/\DatVs K F (fvs.map (·.2)) (e.fs.map (·.2))
theorem aAL.same{K:Frag}{mg:Str->Option Value}{F F':Hp}{e:Er}{a:Addr}(s:aO F F')(h:aAL K mg F e a):aAL K mg F' e a:=by
 obtain ⟨C,dx,fvs,h1,h2,h3,h4⟩:=h
 exact ⟨C,dx,fvs,h1,s _ _ h2,h3,h4.same s⟩
structure MapRel(K:Frag)(F:Hp)(es:List Ent)(kvs:List (PyData×PyData)):Prop where
 k1:es.map (·.1)=kvs.map (·.1)
 k2:DatVs K F (es.map (·.2.1)) (kvs.map (·.1))
 vs:DatVs K F (es.map (·.2.2)) (kvs.map (·.2))
 nd:(kvs.map (·.1)).Nodup
theorem MapRel.same{K:Frag}{F F':Hp}{es:List Ent}{kvs:List (PyData×PyData)}(s:aO F F')(h:MapRel K F es kvs):MapRel K F' es kvs:=⟨h.k1,h.k2.same s,h.vs.same s,h.nd⟩
def AF(g:Gb)(K:Frag)(mg:Str->Option Value)(F:Hp):A->V->Prop
 | .d x,v=>DatV K F v x
 | .x e,v=>∃ a C,v=.ref a/\nC K mg F e a C
 | .g k n G,v=>∃ f F1,v=.ref f/\aO F1 F/\g.B f F1 k n G
 | .f kvs,v=>∃ p es,v=.ref p/\(∃ ep,F p=some (jK g.w p es ep))/\MapRel K F es kvs
 | .o e,v=>∃ a,v=.ref a/\aAL K mg F e a
 | _,_=>False
theorem AF.same{g:Gb}{K:Frag}{mg:Str->Option Value}{F F':Hp}(s:aO F F'):∀ {a:A} {v:V},AF g K mg F a v->AF g K mg F' a v
 | .d x,v,h=>DatV.same s h
 | .x e,v,⟨a,C,h1,h2⟩=>⟨a,C,h1,h2.same s⟩
 | .g k n G,v,⟨f,F1,h1,h2,h3⟩=>⟨f,F1,h1,fun a o z=>s a o (h2 a o z),h3⟩
 | .f kvs,v,⟨p,es,h1,⟨ep,h2⟩,h3⟩=>⟨p,es,h1,⟨ep,s _ _ h2⟩,h3.same s⟩
 | .o e,v,⟨a,h1,h2⟩=>⟨a,h1,h2.same s⟩
noncomputable def A.own:A->Bool
 | .l _=>true
 | .m _=>true
 | _=>false
def AO(c:Ct)(F H:Hp):A->V->Prop
 | .l xs,v=>∃ p vs,v=.ref p/\H p=some (.lst vs)/\F p=none/\c.H0 p=none/\DatVs c.K F vs xs
 | .m kvs,v=>∃ p es,v=.ref p/\(∃ ep,H p=some (jK c.w p es ep))/\F p=none/\c.H0 p=none/\MapRel c.K F es kvs
 | .k q,v=>∃ S f cl doc pm cc ct,c.cls q=some S/\v=.ref f/\F f=some (FnO f (S.obj cl doc pm cc ct))/\F cc=some (.cod S.qual)/\ClOf c.cells S.scope cl
 | a,v=>AF c.g c.K c.mg F a v
theorem AO.ext{c:Ct}{F H F' H':Hp}(s:Ext F H F' H'):∀ {a:A} {v:V},AO c F H a v->AO c F' H' a v
 | .d x,v,h=>DatV.same s.ff h
 | .x e,v,h=>AF.same (g:=c.g) (K:=c.K) (mg:=c.mg) (a:=.x e) s.ff h
 | .g k n G,v,h=>AF.same (g:=c.g) (K:=c.K) (mg:=c.mg) (a:=.g k n G) s.ff h
 | .f kvs,v,h=>AF.same (g:=c.g) (K:=c.K) (mg:=c.mg) (a:=.f kvs) s.ff h
 | .o e,v,h=>AF.same (g:=c.g) (K:=c.K) (mg:=c.mg) (a:=.o e) s.ff h
 | .k q,v,⟨S,f,cl,doc,pm,cc,ct,h0,h1,h2,h3,h4⟩=>⟨S,f,cl,doc,pm,cc,ct,h0,h1,s.ff _ _ h2,s.ff _ _ h3,h4⟩
 | .l xs,v,⟨p,vs,h1,h2,h3,h4,h5⟩=>⟨p,vs,h1,s.hh _ _ h2,s.stay h3 h2 (fun _ z=>nomatch z),h4,h5.same s.ff⟩
 | .m kvs,v,⟨p,vs,h1,⟨ep,h2⟩,h3,h4,h5⟩=>⟨p,vs,h1,⟨ep,s.hh _ _ h2⟩,s.stay h3 h2 (fun _ z=>aD9 z),h4,h5.same s.ff⟩
theorem AO.at{c:Ct}{F H:Hp}{a:A}{v:V}(h:AO c F H a v)(o:a.own=true):∃ p o,v=.ref p/\H p=some o/\F p=none/\c.H0 p=none:=by
 cases a with
 | l xs=>obtain ⟨p,vs,h1,h2,h3,h4,h5⟩:=h;exact ⟨p,_,h1,h2,h3,h4⟩
 | m xs=>obtain ⟨p,vs,h1,⟨ep,h2⟩,h3,h4,h5⟩:=h;exact ⟨p,_,h1,h2,h3,h4⟩
 | d x=>cases o
 | x e=>cases o
 | g k n f=>cases o
 | k S=>cases o
 | f S=>cases o
 | o S=>cases o
theorem AO.off{c:Ct}{F H:Hp}{p:Addr}{o:HO}:∀ {a:A} {v:V},AO c F H a v->v≠.ref p->AO c F (upd H p o) a v
 | .l xs,v,⟨q,vs,h1,h2,h3,h4,h5⟩,n=>⟨q,vs,h1,by rw[aK (fun z=>n (by rw[h1,z]))];exact h2,h3,h4,h5⟩
 | .m xs,v,⟨q,vs,h1,⟨ep,h2⟩,h3,h4,h5⟩,n=>⟨q,vs,h1,⟨ep,by rw[aK (fun z=>n (by rw[h1,z]))];exact h2⟩,h3,h4,h5⟩
 | .d x,v,h,_=>h
 | .x e,v,h,_=>h
 | .g k n G,v,h,_=>h
 | .k S,v,h,_=>h
 | .f S,v,h,_=>h
 | .o S,v,h,_=>h
structure Ab(c:Ct)(ρ:Sg)(σ:L2.St)(F H:Hp):Prop where
 len:ρ.length=σ.length
 fh:aO F H
 slot:∀ (i:Nat) (a:A),ρ[i]? = some (some a)->∃ v,σ[i]? = some (some v)/\AO c F H a v
 apart:∀ (i j:Nat) (a b:A),i≠j->ρ[i]? = some (some a)->ρ[j]? = some (some b)->a.own=true->b.own=true->σ[i]? ≠ σ[j]?
 f0:aO c.F0 F
 h0:aO c.H0 H
 n0:∀ a,c.F0 a=none->F a≠none->rK c.H0 a
 t0:aO c.g.T c.F0
theorem Ab.all{c:Ct}{ρ:Sg}{σ:L2.St}{F H:Hp}(b:Ab c ρ σ F H):Ext c.F0 c.H0 F H:=⟨b.h0,b.f0,b.fh,b.n0⟩
theorem Ab.ext{c:Ct}{ρ:Sg}{σ:L2.St}{F H F' H':Hp}(b:Ab c ρ σ F H)(e:Ext F H F' H'):Ab c ρ σ F' H' where
 len:=b.len
 fh:=e.fh
 slot:=fun i a h=>let ⟨v,h1,h2⟩:=b.slot i a h;⟨v,h1,h2.ext e⟩
 apart:=b.apart
 f0:=fun x o h=>e.ff x o (b.f0 x o h)
 h0:=fun x o h=>e.hh x o (b.h0 x o h)
 n0:=fun a h n=>by
  cases q:F a with
  | none=>exact (e.nw a q n).back b.h0
  | some o=>exact b.n0 a h (by rw[q];exact fun z=>nomatch z)
 t0:=b.t0
def XW(c:Ct)(E:XK)(e:Er):Prop:=∀ a C F' H',Ext c.F0 c.H0 F' H'->nC c.K c.mg F' e a C->E (.ref C) (some a) H'
def Rk{α:Type}(c:Ct)(E:XK)(F H:Hp)(r:R α)(k:α->Prop):Prop:=match r with
 | .bad=>False
 | .ok a=>k a
 | .ex e=>XW c E e
abbrev VR(α:Type):=α->V->Hp->Hp->Hp->Prop
def tV{α:Type}(Rel:VR α)(c:Ct)(E:XK)(f:Sg->R α):TE:=fun σ H Q=>∃ ρ F,Ab c ρ σ F H/\Rk c E F H (f ρ) fun d=>∀ v F' H',Ext F H F' H'->Rel d v H F' H'->Q v H'
def bT(c:Ct):VR PyData:=fun d v _ F _=>DatV c.K F v d
def aY(K:Frag)(F H:Hp)(v:V)(d:PyData):Prop:=DatV K F v d\/∃ p vs xs,v=.ref p/\d=.list xs/\H p=some (.lst vs)/\DatVs K F vs xs
def aV(c:Ct):VR PyData:=fun d v _ F H=>aY c.K F H v d
def aEB(c:Ct):VR A:=fun a v _ F _=>AF c.g c.K c.mg F a v
def aAM(c:Ct):VR (List PyData):=fun xs v H F H'=>∃ p vs,v=.ref p/\H p=none/\H' p=some (.lst vs)/\F p=none/\DatVs c.K F vs xs
abbrev PD(X:Cx)(c:Ct)(E:XK)(e:Expr)(f:Sg->R PyData):Prop:=PE X e (tV (bT c) c E f)
abbrev PR(X:Cx)(c:Ct)(E:XK)(e:Expr)(f:Sg->R PyData):Prop:=PE X e (tV (aV c) c E f)
abbrev PV(X:Cx)(c:Ct)(E:XK)(e:Expr)(f:Sg->R A):Prop:=PE X e (tV (aEB c) c E f)
abbrev PN(X:Cx)(c:Ct)(E:XK)(e:Expr)(f:Sg->R (List PyData)):Prop:=PE X e (tV (aAM c) c E f)
theorem PE.imp{X:Cx}{e:Expr}{t t':TE}(h:PE X e t)(i:∀ σ H Q,t' σ H Q->t σ H Q):PE X e t':=fun pins s σ H Q I q=>h pins s σ H Q I (i σ H Q q)
theorem PT.imp{X:Cx}{e:Expr}{t t':TT}(h:PT X e t)(i:∀ σ H Q,t' σ H Q->t σ H Q):PT X e t':=fun pins s σ H Q I q=>h pins s σ H Q I (i σ H Q q)
theorem PS.imp{X:Cx}{e:Stmt}{t t':TS}(h:PS X e t)(i:∀ D σ H,t' D σ H->t D σ H):PS X e t':=fun pins s σ H D I q=>h pins s σ H D I (i D σ H q)
theorem PSs.imp{X:Cx}{e:List Stmt}{t t':TS}(h:PSs X e t)(i:∀ D σ H,t' D σ H->t D σ H):PSs X e t':=fun pins s σ H D I q=>h pins s σ H D I (i D σ H q)
def aFS{α:Type}(Rel:VR α):Prop:=∀ d v H F H1 F2 H2,Ext F H1 F2 H2->Rel d v H F H1->Rel d v H F2 H2
theorem aY.ext{K:Frag}{F H F' H':Hp}{v:V}{d:PyData}(e:Ext F H F' H')(h:aY K F H v d):aY K F' H' v d:=by
 rcases h with h|⟨p,vs,xs,h1,h2,h3,h4⟩
 · exact .inl (h.same e.ff)
 · exact .inr ⟨p, vs, xs, h1, h2, e.hh _ _ h3, h4.same e.ff⟩
theorem rL(c:Ct):aFS (aV c):=fun d v H F H1 F2 H2 e h=>aY.ext e h
theorem aY.heap{K:Frag}{F H:Hp}{v:V}{d:PyData}(s:aO F H)(h:aY K F H v d):DatV K H v d:=by
 rcases h with h|⟨p,vs,xs,h1,h2,h3,h4⟩
 · exact h.same s
 · subst h1 h2; exact .lst (SqL.of h3) (h4.same s)
section
variable{X:Cx}{c:Ct}{E:XK}{α β γ:Type}{Ra:VR α}{Rb:VR β}{Rc:VR γ}{σ:L2.St}{H:Hp}{Q:VK}
theorem Rk.ok{F:Hp}{a:α}{k:α->Prop}(h:Rk c E F H (.ok a) k):k a:=h
theorem Rk.imp{F:Hp}{r:R α}{k k':α->Prop}(h:Rk c E F H r k)(i:∀ a,r=.ok a->k a->k' a):Rk c E F H r k':=by
 cases r with
 | bad=>exact h
 | ok a=>exact i a rfl h
 | ex e=>exact h
theorem Rk.bind{F:Hp}{r:R α}{f:α->R β}{k:β->Prop}(h:Rk c E F H (r.bind f) k):Rk c E F H r fun a=>Rk c E F H (f a) k:=by
 cases r with
 | bad=>exact h
 | ok a=>exact h
 | ex e=>exact h
theorem Rk.ext{F F' H':Hp}{r:R α}{k:α->Prop}(e:Ext F H F' H')(h:Rk c E F H r k):Rk c E F' H' r k:=by
 cases r with
 | bad=>exact h
 | ok a=>exact h
 | ex x=>exact h
end
def aAN{α:Type}(Rel:VR α):Prop:=∀ d v H H1 F' H',aO H H1->Rel d v H1 F' H'->Rel d v H F' H'
theorem kG(c:Ct):aAN (bT c):=fun _ _ _ _ _ _ _ h=>h
section
variable{X:Cx}{c:Ct}{E:XK}{α β γ:Type}{Ra:VR α}{Rb:VR β}{Rc:VR γ}
def Op1(c:Ct)(Ra:VR α)(Rb:VR β)(g:α->R β)(r:V->Hp->VK->Prop):Prop:=
 ∀ (H0 F H:Hp) (a:α) (b:β) (v:V) (Q:VK),aO F H->Ra a v H0 F H->g a=.ok b->(∀ w F' H',Ext F H F' H'->Rb b w H F' H'->Q w H')->r v H Q
def Op2(c:Ct)(Ra:VR α)(Rb:VR β)(Rc:VR γ)(g:α->β->R γ)(r:R2):Prop:=
 ∀ (H0 H1 F H:Hp) (a:α) (b:β) (d:γ) (v u:V) (Q:VK),aO F H->Ra a v H0 F H->Rb b u H1 F H->g a b=.ok d->(∀ w F' H',Ext F H F' H'->Rc d w H F' H'->Q w H')->r v u H Q
def mG(g:α->R β):Prop:=∀ a e,g a≠.ex e
def b8(g:α->β->R γ):Prop:=∀ a b e,g a b≠.ex e
theorem tV1{f:Sg->R α}{g:α->R β}{r:V->Hp->VK->Prop}(ho:Op1 c Ra Rb g r)(hp:mG g)(kb:aAN Rb){σ:L2.St}{H:Hp}{Q:VK}(h:tV Rb c E (fun ρ=>(f ρ).bind g) σ H Q) :
  tV Ra c E f σ H fun v H1=>r v H1 Q:=by
 obtain ⟨ρ,F,ab,h⟩:=h
 refine ⟨ρ,F,ab,(Rk.bind h).imp fun a ea q v F1 H1 e1 rv=>?_⟩
 cases eg:g a with
 | bad=>rw[eg] at q;exact q.elim
 | ex e=>exact absurd eg (hp a e)
 | ok b=>
  rw[eg] at q
  exact ho H F1 H1 a b v Q e1.fh rv eg fun w F' H' e2 rw'=>q w F' H' (e1.trans e2) (kb _ _ _ _ _ _ e1.hh rw')
theorem tV2{f:Sg->R α}{f':Sg->R β}{g:α->β->R γ}{r:R2}(ho:Op2 c Ra Rb Rc g r)(hp:b8 g)(ka:aFS Ra)(kb:aAN Rc){σ:L2.St}{H:Hp}{Q:VK}(h:tV Rc c E (fun ρ=>(f ρ).bind fun a=>(f' ρ).bind fun b=>g a b) σ H Q) :
  tOp r (tV Ra c E f) (tV Rb c E f') σ H Q:=by
 obtain ⟨ρ,F,ab,h⟩:=h
 refine ⟨ρ,F,ab,(Rk.bind h).imp fun a ea q v F1 H1 e1 rv=>?_⟩
 refine ⟨ρ,F1,ab.ext e1,((Rk.bind q).ext e1).imp fun b eb q u F2 H2 e2 ru=>?_⟩
 cases eg:g a b with
 | bad=>rw[eg] at q;exact q.elim
 | ex e=>exact absurd eg (hp a b e)
 | ok d=>
  rw[eg] at q
  exact ho H H1 F2 H2 a b d v u Q e2.fh (ka _ _ _ _ _ _ _ e2 rv) ru eg fun w F' H' e3 rw'=>q w F' H' ((e1.trans e2).trans e3) (kb _ _ _ _ _ _ (fun x o z=>e2.hh x o (e1.hh x o z)) rw')
end
end Fl
namespace Fl
open PySem L2 PyProof.Rows
section
variable{K:Frag}{F H:Hp}{v:V}
theorem DatV.bl_of{b:Bool}(h:DatV K H v (.bool b)):v=.bl b:=by cases h;rfl
theorem DatV.non_of(h:DatV K H v .none):v=.non:=by cases h;rfl
theorem aY.int_of{i:Int}(h:aY K F H v (.int i)):v=.int i:=by
 rcases h with h|⟨_,_,_,_,h,_⟩
 · exact h.int_of
 · cases h
theorem aY.str_of{i:Str}(h:aY K F H v (.str i)):v=.str i:=by
 rcases h with h|⟨_,_,_,_,h,_⟩
 · exact h.str_of
 · cases h
theorem aY.bl_of{i:Bool}(h:aY K F H v (.bool i)):v=.bl i:=by
 rcases h with h|⟨_,_,_,_,h,_⟩
 · exact DatV.bl_of h
 · cases h
theorem aY.non_of(h:aY K F H v .none):v=.non:=by
 rcases h with h|⟨_,_,_,_,h,_⟩
 · exact DatV.non_of h
 · cases h
theorem aY.tup_of{xs:List PyData}(s:aO F H)(h:aY K F H v (.tuple xs)):∃ a vs,v=.ref a/\SqT K F a vs/\SqT K H a vs/\DatVs K F vs xs:=by
 rcases h with h|⟨_,_,_,_,h,_⟩
 ·obtain ⟨a,vs,h1,h2,h3⟩:=h.tup_of
  exact ⟨a,vs,h1,h2,h2.same s,h3⟩
 ·cases h
theorem aY.lst_of{xs:List PyData}(s:aO F H)(h:aY K F H v (.list xs)):∃ a vs,v=.ref a/\SqL K H a vs/\DatVs K F vs xs:=by
 rcases h with h|⟨p,vs,ys,h1,h2,h3,h4⟩
 ·obtain ⟨a,vs,h1,h2,h3⟩:=h.lst_of
  exact ⟨a,vs,h1,h2.same s,h3⟩
 ·cases h2
  exact ⟨p,vs,h1,SqL.of h3,h4⟩
theorem wX{vs:List V}{xs:List PyData}{i:Int}{d:PyData}(h:DatVs K F vs xs)(e:atI xs i=some d):∃ x,atI vs i=some x/\DatV K F x d:=by
 unfold atI at e ⊢
 rw[h.length]
 cases q:ixN xs.length i with
 | none=>rw[q] at e;cases e
 | some j=>
  rw[q] at e
  exact h.get' (i:=j) e
end
noncomputable def eV(i:Nat):Sg->R PyData:=fun ρ=>match ρ[i]? with
 | some (some (.d x))=>.ok x
 | _=>.bad
noncomputable def rV(i:Nat):Sg->R PyData:=fun ρ=>match ρ[i]? with
 | some (some (.d x))=>.ok x
 | some (some (.l xs))=>.ok (.list xs)
 | _=>.bad
noncomputable def vV(i:Nat):Sg->R A:=fun ρ=>match ρ[i]? with
 | some (some (.d x))=>.ok (.d x)
 | some (some (.x e))=>.ok (.x e)
 | some (some (.g k n f))=>.ok (.g k n f)
 | some (some (.f kvs))=>.ok (.f kvs)
 | _=>.bad
def eC(d:PyData):Sg->R PyData:=fun _=>.ok d
section
variable{X:Cx}{c:Ct}{E:XK}{e a b:Expr}
theorem cY{i:Nat}(h:PE X e (j9 i)):PD X c E e (eV i):=PE.imp h fun σ H Q ⟨ρ,F,ab,k⟩=>by
 unfold eV at k
 split at k
 ·rename_i x hx
  obtain ⟨v,h1,h2⟩:=ab.slot i _ hx
  exact ⟨v,h1,k v F H (Ext.refl ab.fh) h2⟩
 ·exact k.elim
theorem aC{i:Nat}(h:PE X e (j9 i)):PR X c E e (rV i):=PE.imp h fun σ H Q ⟨ρ,F,ab,k⟩=>by
 unfold rV at k
 split at k
 ·rename_i x hx
  obtain ⟨v,h1,h2⟩:=ab.slot i _ hx
  exact ⟨v,h1,k v F H (Ext.refl ab.fh) (.inl h2)⟩
 ·rename_i x hx
  obtain ⟨v,h1,p,vs,h2,h3,h4,h5,h6⟩:=ab.slot i _ hx
  exact ⟨v,h1,k v F H (Ext.refl ab.fh) (.inr ⟨p,vs,x,h2,rfl,h3,h6⟩)⟩
 ·exact k.elim
theorem aU{i:Nat}(h:PE X e (j9 i)):PV X c E e (vV i):=PE.imp h fun σ H Q ⟨ρ,F,ab,k⟩=>by
 unfold vV at k
 split at k
 ·rename_i x hx
  obtain ⟨v,h1,h2⟩:=ab.slot i _ hx
  exact ⟨v,h1,k v F H (Ext.refl ab.fh) h2⟩
 ·rename_i x hx
  obtain ⟨v,h1,h2⟩:=ab.slot i _ hx
  exact ⟨v,h1,k v F H (Ext.refl ab.fh) h2⟩
 ·rename_i kk nn ff hx
  obtain ⟨v,h1,h2⟩:=ab.slot i _ hx
  exact ⟨v,h1,k v F H (Ext.refl ab.fh) h2⟩
 ·rename_i kvs hx
  obtain ⟨v,h1,h2⟩:=ab.slot i _ hx
  exact ⟨v,h1,k v F H (Ext.refl ab.fh) h2⟩
 ·exact k.elim
theorem gM{v:V}{d:PyData}(h:PE X e (tC v))(hd:∀ F,DatV c.K F v d):PD X c E e (eC d):=PE.imp h fun σ H Q ⟨ρ,F,ab,k⟩=>k v F H (Ext.refl ab.fh) (hd F)
theorem aD{i j pos}:PD X c E (.Constant (.int i) j pos) (eC (.int i)):=gM aH9 fun _=>.int i
theorem nE{i j pos}:PD X c E (.Constant (.bool i) j pos) (eC (.bool i)):=gM aKT fun _=>.bl i
theorem eI{i j pos}:PD X c E (.Constant (.str i) j pos) (eC (.str i)):=gM aIB fun _=>.str i
theorem aB8{j pos}:PD X c E (.Constant .none j pos) (eC .none):=gM aIA fun _=>.non
theorem aA{f:Sg->R PyData}(h:PD X c E e f):PR X c E e f:=PE.imp h fun σ H Q ⟨ρ,F,ab,k⟩=>⟨ρ,F,ab,k.imp fun d _ q v F' H' s r=>q v F' H' s (.inl r)⟩
def vD(f:Sg->R PyData):Sg->R A:=fun ρ=>(f ρ).bind fun x=>.ok (.d x)
theorem aT{f:Sg->R PyData}(h:PD X c E e f):PV X c E e (vD f):=PE.imp h fun σ H Q ⟨ρ,F,ab,k⟩=>⟨ρ,F,ab,(Rk.bind k).imp fun d _ q v F' H' s r=>Rk.ok q v F' H' s r⟩
def getD:A->R PyData
 | .d x=>.ok x
 | _=>.bad
def eA(f:Sg->R A):Sg->R PyData:=fun ρ=>(f ρ).bind getD
theorem dI{f:Sg->R A}(h:PV X c E e f):PD X c E e (eA f):=PE.imp h fun σ H Q ⟨ρ,F,ab,k⟩=>⟨ρ,F,ab,(Rk.bind k).imp fun d _ q v F' H' s r=>by
 cases d with
 | d x=>exact Rk.ok q v F' H' s r
 | _=>exact False.elim q⟩
def eL(f:Sg->R (List PyData)):Sg->R PyData:=fun ρ=>(f ρ).bind fun xs=>.ok (.list xs)
theorem iY{f:Sg->R (List PyData)}(h:PN X c E e f):PD X c E e (eL f):=PE.imp h fun σ H Q ⟨ρ,F,ab,k⟩=>⟨ρ,F,ab,(Rk.bind k).imp fun xs _ q v F' H' s r=>by
 obtain ⟨p,vs,h1,h2,h3,h4,h5⟩:=r
 subst h1
 refine Rk.ok q (.ref p) (upd F' p (.lst vs)) H' ⟨s.hh,fun a o z=>?_,fun a o z=>?_,fun a z n=>?_⟩ (.lst (SqL.of aW) (h5.same (aO.upd h4)))
 ·rw[aK (cN (s.ff a o z) h4)];exact s.ff a o z
 ·by_cases w:a=p
  · subst w; rw [aW] at z; rw [h3]; exact z
  · rw [aK w] at z; exact s.fh a o z
 ·by_cases w:a=p
  · subst w; exact .inl h2
  · rw [aK w] at n; exact s.nw a z n⟩
def e1{α β:Type}(g:α->R β)(f:Sg->R α):Sg->R β:=fun ρ=>(f ρ).bind g
def e2{α β γ:Type}(g:α->β->R γ)(f:Sg->R α)(f':Sg->R β):Sg->R γ:=fun ρ=>(f ρ).bind fun x=>(f' ρ).bind fun y=>g x y
noncomputable def bL:PyData->PyData->R PyData
 | .int i,.int j=>.ok (.int (i+j))
 | .str x,.str y=>if x.length+y.length<=sizeLine then .ok (.str (x++y)) else .bad
 | .tuple xs,.tuple ys=>if xs.isEmpty=false/\xs.length+ys.length<=sizeLine then .ok (.tuple (xs++ys)) else .bad
 | _,_=>.bad
def dSub:PyData->PyData->R PyData
 | .int i,.int j=>.ok (.int (i - j))
 | _,_=>.bad
noncomputable def dMul:PyData->PyData->R PyData
 | .int i,.int j=>if (-18446744073709551616 < i/\i < 18446744073709551616)\/(-18446744073709551616 < j/\j < 18446744073709551616) then .ok (.int (i * j)) else .bad
 | _,_=>.bad
def dDiv:PyData->PyData->R PyData
 | .int i,.int j=>if 0 < j/\j < 18446744073709551616 then .ok (.int (i / j)) else .bad
 | _,_=>.bad
def dMod:PyData->PyData->R PyData
 | .int i,.int j=>if 0 < j then .ok (.int (i % j)) else .bad
 | _,_=>.bad
def dNeg:PyData->R PyData
 | .int i=>.ok (.int (-i))
 | _=>.bad
def dLt:PyData->PyData->R PyData
 | .int i,.int j=>.ok (.bool (decide (i < j)))
 | _,_=>.bad
def dLe:PyData->PyData->R PyData
 | .int i,.int j=>.ok (.bool (decide (i<=j)))
 | _,_=>.bad
def dGt:PyData->PyData->R PyData
 | .int i,.int j=>.ok (.bool (decide (j < i)))
 | _,_=>.bad
def dGe:PyData->PyData->R PyData
 | .int i,.int j=>.ok (.bool (decide (j<=i)))
 | _,_=>.bad
def dEq(x y:PyData):R PyData:=if SeqAt.shaped x=true/\SeqAt.shaped y=true then .ok (.bool (PyData.eqv x y)) else .bad
def iF:PyData->Bool
 | .none=>true
 | _=>false
def dIs(x y:PyData):R PyData:=if iF y=true then .ok (.bool (iF x)) else .bad
def aK9(x y:PyData):R PyData:=if iF y=true then .ok (.bool (!iF x)) else .bad
noncomputable def inD:PyData->PyData->Option Bool
 | .str i,.str j=>some (!(Builtin.Str.occurrences j i 0 j.length 1).isEmpty)
 | x,.list xs=>if SeqAt.shaped x=true/\SeqAt.shaped (.list xs)=true then some (xs.any fun y=>PyData.eqv y x) else none
 | x,.tuple xs=>if SeqAt.shaped x=true/\SeqAt.shaped (.tuple xs)=true then some (xs.any fun y=>PyData.eqv y x) else none
 | _,_=>none
def dIn(x y:PyData):R PyData:=match inD x y with
 | some b=>.ok (.bool b)
 | none=>.bad
def dNin(x y:PyData):R PyData:=match inD x y with
 | some b=>.ok (.bool (!b))
 | none=>.bad
noncomputable def dIx:PyData->PyData->R PyData
 | .list xs,.int i=>match atI xs i with
  | some v=>.ok v
  | none=>.bad
 | .tuple xs,.int i=>match atI xs i with
  | some v=>.ok v
  | none=>.bad
 | .str z,.int i=>if z.length<=sizeLine then match atI z.cps.toList i with
  | some u=>.ok (.str ⟨#[u]⟩)
  | none=>.bad else .bad
 | _,_=>.bad
end
end Fl
namespace Fl
open PySem L2 PyProof.Rows
section
variable{X:Cx}{c:Ct}{E:XK}{e a b:Expr}{α β γ:Type}{Ra:VR α}{Rb:VR β}{Rc:VR γ}{pos:Pos}
def r2D(Ra:VR α)(Rb:VR β)(Rc:VR γ)(g:α->β->R γ):R2:=fun v u H Q=>∃ H0 H1 F a b d,aO F H/\Ra a v H0 F H/\Rb b u H1 F H/\g a b=.ok d/\∀ w F' H',Ext F H F' H'->Rc d w H F' H'->Q w H'
def r1D(Ra:VR α)(Rb:VR β)(g:α->R β):V->Hp->VK->Prop:=fun v H Q=>∃ H0 F a b,aO F H/\Ra a v H0 F H/\g a=.ok b/\∀ w F' H',Ext F H F' H'->Rb b w H F' H'->Q w H'
theorem vK{g:α->β->R γ}:Op2 c Ra Rb Rc g (r2D Ra Rb Rc g):=fun H0 H1 F H a b d v u Q sf ra rb eg q=>⟨H0,H1,F,a,b,d,sf,ra,rb,eg,q⟩
theorem vL{g:α->R β}:Op1 c Ra Rb g (r1D Ra Rb g):=fun H0 F H a b v Q sf ra eg q=>⟨H0,F,a,b,sf,ra,eg,q⟩
theorem aF{op:Operator}{g:PyData->PyData->R PyData}{fa fb:Sg->R PyData}(ho:OpR X (binaryOp op) (r2D (aV c) (aV c) (bT c) g))(hp:b8 g)(ha:PR X c E a fa)(hb:PR X c E b fb):PD X c E (.BinOp a op b pos) (e2 g fa fb):=
 PE.imp (aKW ho ha hb) fun σ H Q h=>tV2 vK hp (rL c) (kG c) h
theorem vM{op:UnaryOp}{g:PyData->R PyData}{fa:Sg->R PyData}(ho:UnR X (unaryOp op) (r1D (aV c) (bT c) g))(hp:mG g)(ha:PR X c E a fa):PD X c E (.UnaryOp op a pos) (e1 g fa):=
 PE.imp (aKX ho ha) fun σ H Q h=>tV1 vL hp (kG c) h
theorem iD{op:CmpOp}{g:PyData->PyData->R PyData}{fa fb:Sg->R PyData}(ho:OpR X (compareOp op) (r2D (aV c) (aV c) (bT c) g))(hp:b8 g)(ha:PR X c E a fa)(hb:PR X c E b fb)(hm:behindInMarks op b=false):PD X c E (.Compare a [op] [b] pos) (e2 g fa fb):=
 PE.imp (aGC ho ha hb hm) fun σ H Q h=>tV2 vK hp (rL c) (kG c) h
theorem a9{g:PyData->PyData->R PyData}{fa fb:Sg->R PyData}(ho:IxR X (r2D (aV c) (aV c) (bT c) g))(hp:b8 g)(ha:PR X c E a fa)(hb:PR X c E b fb)(hs:yM b:=by exact fun _ _=>rfl):PD X c E (.Subscript a b pos) (e2 g fa fb):=
 PE.imp (L2.aFM ho ha hb hs) fun σ H Q h=>tV2 vK hp (rL c) (kG c) h
theorem bS(hK:X.K=c.K):OpR X (binaryOp .Add) (r2D (aV c) (aV c) (bT c) bL):=by
 intro pins s σ H v u x y Q I rx ry h
 obtain ⟨H0,H1,F,a,b,d,sf,ra,rb,eg,q⟩:=h
 unfold bL at eg
 split at eg
 ·rename_i i j
  cases eg
  obtain rfl:=aY.int_of ra
  obtain rfl:=aY.int_of rb
  exact aIK pins s σ H _ _ x y Q I rx ry ⟨i,j,rfl,rfl,q _ F H (Ext.refl sf) (.int _)⟩
 ·rename_i i j
  split at eg
  ·rename_i hz
   cases eg
   obtain rfl:=aY.str_of ra
   obtain rfl:=aY.str_of rb
   exact zS pins s σ H _ _ x y Q I rx ry ⟨i,j,rfl,rfl,hz,q _ F H (Ext.refl sf) (.str _)⟩
  ·cases eg
 ·rename_i xs ys
  split at eg
  ·rename_i hz
   cases eg
   obtain ⟨pa,vs,rfl,fa,ha,da⟩:=aY.tup_of sf ra
   obtain ⟨pb,us,rfl,fb,hb,db⟩:=aY.tup_of sf rb
   rw[<-hK] at ha hb
   refine aGN pins s σ H _ _ x y Q I rx ry ⟨pa,pb,vs,us,rfl,rfl,ha,hb,?_,by rw[da.length,db.length];exact hz.2,fun z=>?_,fun z p hp=>?_⟩
   ·intro z;subst z;obtain rfl:xs=[]:=by cases da;rfl
    exact absurd hz.1 (by decide)
   ·subst z
    obtain rfl:ys=[]:=by cases db;rfl
    exact q _ F H (Ext.refl sf) (by rw[List.append_nil];exact .tup fa da)
   ·exact q _ _ _ (Ext.new sf hp) (.tup (SqT.of aW) ((da.append db).same (aO.upd (cA sf hp))))
  ·cases eg
 ·cases eg
theorem bD:b8 bL:=by
 intro a b e h
 unfold bL at h
 split at h<;>(try split at h)<;>cases h
theorem iZ{f:Value->Value->Sem Value}{g:PyData->PyData->R PyData}{C:Int->Int->Prop}{k:Int->Int->PyData}{kv:Int->Int->V}(ho:OpR X f (rI C kv))(hk:∀ i j F,DatV c.K F (kv i j) (k i j))
  (hg:∀ a b d,g a b=.ok d->∃ i j,a=.int i/\b=.int j/\C i j/\d=k i j):OpR X f (r2D (aV c) (aV c) (bT c) g):=by
 intro pins s σ H v u x y Q I rx ry h
 obtain ⟨H0,H1,F,a,b,d,sf,ra,rb,eg,q⟩:=h
 obtain ⟨i,j,rfl,rfl,hc,rfl⟩:=hg a b d eg
 obtain rfl:=aY.int_of ra
 obtain rfl:=aY.int_of rb
 exact ho pins s σ H _ _ x y Q I rx ry ⟨i,j,rfl,rfl,hc,q _ F H (Ext.refl sf) (hk i j F)⟩
theorem rM{f:Value->Value->Sem Value}{kv:Int->Int->V}(ho:OpR X f (rI0 kv)):OpR X f (rI (fun _ _=>True) kv):=fun pins s σ H x y v u Q I rx ry ⟨i,j,h1,h2,_,q⟩=>ho pins s σ H x y v u Q I rx ry ⟨i,j,h1,h2,q⟩
theorem dO:OpR X (binaryOp .Sub) (r2D (aV c) (aV c) (bT c) dSub):=iZ (rM aIL) (fun _ _ _=>.int _) fun a b d h=>by
 unfold dSub at h;split at h
 · cases h; exact ⟨_, _, rfl, rfl, trivial, rfl⟩
 · cases h
theorem fO:OpR X (binaryOp .Mult) (r2D (aV c) (aV c) (bT c) dMul):=iZ aIM (fun _ _ _=>.int _) fun a b d h=>by
 unfold dMul at h;split at h
 ·split at h
  · rename_i hc; cases h; exact ⟨_, _, rfl, rfl, hc, rfl⟩
  · cases h
 ·cases h
theorem cL:OpR X (binaryOp .FloorDiv) (r2D (aV c) (aV c) (bT c) dDiv):=iZ aDZ (fun _ _ _=>.int _) fun a b d h=>by
 unfold dDiv at h;split at h
 ·split at h
  · rename_i hc; cases h; exact ⟨_, _, rfl, rfl, hc, rfl⟩
  · cases h
 ·cases h
theorem bJ:OpR X (binaryOp .Mod) (r2D (aV c) (aV c) (bT c) dMod):=iZ aIN (fun _ _ _=>.int _) fun a b d h=>by
 unfold dMod at h;split at h
 ·split at h
  · rename_i hc; cases h; exact ⟨_, _, rfl, rfl, hc, rfl⟩
  · cases h
 ·cases h
theorem j6:OpR X (compareOp .Lt) (r2D (aV c) (aV c) (bT c) dLt):=iZ (rM aKY) (fun _ _ _=>.bl _) fun a b d h=>by
 unfold dLt at h;split at h
 · cases h; exact ⟨_, _, rfl, rfl, trivial, rfl⟩
 · cases h
theorem mH:OpR X (compareOp .LtE) (r2D (aV c) (aV c) (bT c) dLe):=iZ (rM aKZ) (fun _ _ _=>.bl _) fun a b d h=>by
 unfold dLe at h;split at h
 · cases h; exact ⟨_, _, rfl, rfl, trivial, rfl⟩
 · cases h
theorem mI:OpR X (compareOp .Gt) (r2D (aV c) (aV c) (bT c) dGt):=iZ (rM aK0) (fun _ _ _=>.bl _) fun a b d h=>by
 unfold dGt at h;split at h
 · cases h; exact ⟨_, _, rfl, rfl, trivial, rfl⟩
 · cases h
theorem aJD:OpR X (compareOp .GtE) (r2D (aV c) (aV c) (bT c) dGe):=iZ (rM aK1) (fun _ _ _=>.bl _) fun a b d h=>by
 unfold dGe at h;split at h
 · cases h; exact ⟨_, _, rfl, rfl, trivial, rfl⟩
 · cases h
theorem cV:b8 dSub:=by intro a b e h;unfold dSub at h;split at h<;>cases h
theorem eF:b8 dMul:=by intro a b e h;unfold dMul at h;split at h<;>(try split at h)<;>cases h
theorem bV:b8 dDiv:=by intro a b e h;unfold dDiv at h;split at h<;>(try split at h)<;>cases h
theorem aZ:b8 dMod:=by intro a b e h;unfold dMod at h;split at h<;>(try split at h)<;>cases h
theorem gN:b8 dLt:=by intro a b e h;unfold dLt at h;split at h<;>cases h
theorem jL:b8 dLe:=by intro a b e h;unfold dLe at h;split at h<;>cases h
theorem jM:b8 dGt:=by intro a b e h;unfold dGt at h;split at h<;>cases h
theorem aEC:b8 dGe:=by intro a b e h;unfold dGe at h;split at h<;>cases h
theorem cP:b8 dEq:=by intro a b e h;unfold dEq at h;split at h<;>cases h
theorem aED:b8 dIs:=by intro a b e h;unfold dIs at h;split at h<;>cases h
theorem aEE:b8 dIn:=by intro a b e h;unfold dIn at h;split at h<;>cases h
theorem aB9:b8 dNin:=by intro a b e h;unfold dNin at h;split at h<;>cases h
theorem lS:mG dNeg:=by intro a e h;unfold dNeg at h;split at h<;>cases h
theorem aQ:b8 dIx:=by
 intro a b e h
 unfold dIx at h
 split at h<;>(try split at h)<;>(try split at h)<;>cases h
theorem pP:UnR X (unaryOp .USub) (r1D (aV c) (bT c) dNeg):=by
 intro pins s σ H v x Q I rx h
 obtain ⟨H0,F,a,d,sf,ra,eg,q⟩:=h
 unfold dNeg at eg
 split at eg
 ·rename_i i
  cases eg
  obtain rfl:=aY.int_of ra
  exact aIP pins s σ H _ x Q I rx ⟨i,rfl,q _ F H (Ext.refl sf) (.int _)⟩
 ·cases eg
theorem dP(hK:X.K=c.K)(hu:X.A.units+64 < cLine):OpR X (compareOp .Eq) (r2D (aV c) (aV c) (bT c) dEq):=by
 intro pins s σ H v u x y Q I rx ry h
 obtain ⟨H0,H1,F,a,b,d,sf,ra,rb,eg,q⟩:=h
 unfold dEq at eg
 split at eg
 ·rename_i hs
  cases eg
  exact aI3 hu pins s σ H _ _ x y Q I rx ry ⟨a,b,by rw[hK];exact aY.heap sf ra,by rw[hK];exact aY.heap sf rb,hs.1,hs.2,q _ F H (Ext.refl sf) (.bl _)⟩
 ·cases eg
theorem uF{K:Frag}{F H:Hp}{v:V}{d:PyData}(h:aY K F H v d):decide (v=.non)=iF d:=by
 rcases h with h|⟨p,vs,xs,h1,h2,_⟩
 · cases h <;> rfl
 · subst h1 h2; rfl
theorem aJE:OpR X (compareOp .Is) (r2D (aV c) (aV c) (bT c) dIs):=by
 intro pins s σ H v u x y Q I rx ry h
 obtain ⟨H0,H1,F,a,b,d,sf,ra,rb,eg,q⟩:=h
 unfold dIs at eg
 split at eg
 ·rename_i hs
  cases eg
  have e2:=uF rb
  rw[hs] at e2
  refine aIQ pins s σ H _ _ x y Q I rx ry ⟨of_decide_eq_true e2,q _ F H (Ext.refl sf) ?_⟩
  rw[uF ra];exact .bl _
 ·cases eg
theorem nF{xs:List PyData}(h:SeqAt.shaped (.list xs)=true):PyData.canLayAll0 xs=true/\PyData.depthAll xs<=63:=by
 have h':(PyData.canLay0 (.list xs) && decide ((PyData.list xs).depth<=64))=true:=h
 rw[Bool.and_eq_true] at h'
 have hd:PyData.depthAll xs+1<=64:=of_decide_eq_true h'.2
 exact ⟨h'.1,by omega⟩
theorem qE{xs:List PyData}(h:SeqAt.shaped (.tuple xs)=true):PyData.canLayAll0 xs=true/\PyData.depthAll xs<=63:=by
 have h':(PyData.canLay0 (.tuple xs) && decide ((PyData.tuple xs).depth<=64))=true:=h
 rw[Bool.and_eq_true] at h'
 have hd:PyData.depthAll xs+1<=64:=of_decide_eq_true h'.2
 exact ⟨h'.1,by omega⟩
theorem i0{d:PyData}(h:SeqAt.shaped d=true):d.canLay0=true:=by
 have h':(PyData.canLay0 d && decide (d.depth<=64))=true:=h
 rw[Bool.and_eq_true] at h'
 exact h'.1
theorem inD_cases{x y:PyData}{b:Bool}(h:inD x y=some b):(∃ i j,x=.str i/\y=.str j/\b = !(Builtin.Str.occurrences j i 0 j.length 1).isEmpty) \/
  (∃ xs,y=.list xs/\SeqAt.shaped x=true/\SeqAt.shaped (.list xs)=true/\b=xs.any fun z=>PyData.eqv z x)\/(∃ xs,y=.tuple xs/\SeqAt.shaped x=true/\SeqAt.shaped (.tuple xs)=true/\b=xs.any fun z=>PyData.eqv z x):=by
 unfold inD at h
 split at h
 ·cases h;exact .inl ⟨_,_,rfl,rfl,rfl⟩
 ·split at h
  · rename_i hs; cases h; exact .inr (.inl ⟨_, rfl, hs.1, hs.2, rfl⟩)
  · cases h
 ·split at h
  · rename_i hs; cases h; exact .inr (.inr ⟨_, rfl, hs.1, hs.2, rfl⟩)
  · cases h
 ·cases h
theorem kU{a b:Nat}(h:a<=63):min a b<=63:=Nat.le_trans (Nat.min_le_left _ _) h
theorem aJF(hK:X.K=c.K)(hu:X.A.units+64 < cLine):OpR X (compareOp .In) (r2D (aV c) (aV c) (bT c) dIn):=by
 intro pins s σ H v u x y Q I rx ry h
 obtain ⟨H0,H1,F,a,b,d,sf,ra,rb,eg,q⟩:=h
 unfold dIn at eg
 split at eg
 ·rename_i bb hb
  cases eg
  have fin:EP X pins σ Q (.bool bb) s:=⟨.bl bb,H,I,rfl,q _ F H (Ext.refl sf) (.bl _)⟩
  rcases inD_cases hb with ⟨i,j,rfl,rfl,rfl⟩|⟨xs,rfl,h1,h2,rfl⟩|⟨xs,rfl,h1,h2,rfl⟩
  ·obtain rfl:=aY.str_of ra
   obtain rfl:=aY.str_of rb
   exact aBF pins s σ H _ _ x y Q I rx ry ⟨i,j,rfl,rfl,q _ F H (Ext.refl sf) (.bl _)⟩
  ·obtain ⟨as,r1⟩:=DatV.reads I (by rw[hK];exact aY.heap sf ra) rx
   obtain ⟨bs,r2⟩:=DatV.reads I (by rw[hK];exact aY.heap sf rb) ry
   have hs:=nF h2
   have hm:=kU (b:=a.depth) hs.2
   exact SeqAt.in_list_reads r2 r1 hs.1 (i0 h1) (by omega) fin
  ·obtain ⟨as,r1⟩:=DatV.reads I (by rw[hK];exact aY.heap sf ra) rx
   obtain ⟨bs,r2⟩:=DatV.reads I (by rw[hK];exact aY.heap sf rb) ry
   have hs:=qE h2
   have hm:=kU (b:=a.depth) hs.2
   exact SeqAt.in_tuple_reads r2 r1 hs.1 (i0 h1) (by omega) fin
 ·cases eg
theorem aG6(hK:X.K=c.K)(hu:X.A.units+64 < cLine):OpR X (compareOp .NotIn) (r2D (aV c) (aV c) (bT c) dNin):=by
 intro pins s σ H v u x y Q I rx ry h
 obtain ⟨H0,H1,F,a,b,d,sf,ra,rb,eg,q⟩:=h
 unfold dNin at eg
 split at eg
 ·rename_i bb hb
  cases eg
  have fin:EP X pins σ Q (.bool (!bb)) s:=⟨.bl (!bb),H,I,rfl,q _ F H (Ext.refl sf) (.bl _)⟩
  rcases inD_cases hb with ⟨i,j,rfl,rfl,rfl⟩|⟨xs,rfl,h1,h2,rfl⟩|⟨xs,rfl,h1,h2,rfl⟩
  ·obtain rfl:=aY.str_of ra
   obtain rfl:=aY.str_of rb
   exact wB pins s σ H _ _ x y Q I rx ry ⟨i,j,rfl,rfl,q _ F H (Ext.refl sf) (.bl _)⟩
  ·obtain ⟨as,r1⟩:=DatV.reads I (by rw[hK];exact aY.heap sf ra) rx
   obtain ⟨bs,r2⟩:=DatV.reads I (by rw[hK];exact aY.heap sf rb) ry
   have hs:=nF h2
   have hm:=kU (b:=a.depth) hs.2
   exact SeqAt.notIn_list_reads r2 r1 hs.1 (i0 h1) (by omega) fin
  ·obtain ⟨as,r1⟩:=DatV.reads I (by rw[hK];exact aY.heap sf ra) rx
   obtain ⟨bs,r2⟩:=DatV.reads I (by rw[hK];exact aY.heap sf rb) ry
   have hs:=qE h2
   have hm:=kU (b:=a.depth) hs.2
   exact SeqAt.notIn_tuple_reads r2 r1 hs.1 (i0 h1) (by omega) fin
 ·cases eg
theorem bA(hK:X.K=c.K):IxR X (r2D (aV c) (aV c) (bT c) dIx):=by
 intro value slice pins s σ H v u x y Q I rx ry h hs
 obtain ⟨H0,H1,F,a,b,d,sf,ra,rb,eg,q⟩:=h
 unfold dIx at eg
 split at eg
 ·rename_i xs i
  split at eg
  ·rename_i w hw
   cases eg
   obtain ⟨p,vs,rfl,h1,h2⟩:=aY.lst_of sf ra
   obtain rfl:=aY.int_of rb
   obtain ⟨z,h3,h4⟩:=wX h2 hw
   rw[<-hK] at h1
   exact yN value slice pins s σ H _ _ x y Q I rx ry ⟨p,vs,i,z,rfl,rfl,h1,h3,q _ F H (Ext.refl sf) h4⟩ hs
  ·cases eg
 ·rename_i xs i
  split at eg
  ·rename_i w hw
   cases eg
   obtain ⟨p,vs,rfl,_,h1,h2⟩:=aY.tup_of sf ra
   obtain rfl:=aY.int_of rb
   obtain ⟨z,h3,h4⟩:=wX h2 hw
   rw[<-hK] at h1
   exact aBL value slice pins s σ H _ _ x y Q I rx ry ⟨p,vs,i,z,rfl,rfl,h1,h3,q _ F H (Ext.refl sf) h4⟩ hs
  ·cases eg
 ·rename_i z i
  split at eg
  ·rename_i hz
   split at eg
   ·rename_i w hw
    cases eg
    obtain rfl:=aY.str_of ra
    obtain rfl:=aY.int_of rb
    exact aBM value slice pins s σ H _ _ x y Q I rx ry ⟨z,i,w,rfl,rfl,hz,hw,q _ F H (Ext.refl sf) (.str _)⟩ hs
   ·cases eg
  ·cases eg
 ·cases eg
def tTf(c:Ct)(E:XK)(f:Sg->R Bool):TT:=fun σ H Q=>∃ ρ F,Ab c ρ σ F H/\Rk c E F H (f ρ) fun b=>∀ F' H',Ext F H F' H'->Q b H'
abbrev PTf(X:Cx)(c:Ct)(E:XK)(e:Expr)(f:Sg->R Bool):Prop:=PT X e (tTf c E f)
def asB:PyData->R Bool
 | .bool b=>.ok b
 | _=>.bad
theorem mJ{f:Sg->R PyData}{σ:L2.St}{H:Hp}{Q:Bool->Hp->Prop}(h:tTf c E (e1 asB f) σ H Q):tV (bT c) c E f σ H fun x H'=>∃ k,x=.bl k/\Q k H':=by
 obtain ⟨ρ,F,ab,h⟩:=h
 refine ⟨ρ,F,ab,(Rk.bind h).imp fun d _ q v F' H' s r=>?_⟩
 cases d with
 | bool b=>exact ⟨b,DatV.bl_of r,Rk.ok q F' H' s⟩
 | _=>exact False.elim q
theorem cO{op:CmpOp}{g:PyData->PyData->R PyData}{fa fb:Sg->R PyData}(ho:OpR X (compareOp op) (r2D (aV c) (aV c) (bT c) g))(hp:b8 g)(ha:PR X c E a fa)(hb:PR X c E b fb)(hm:behindInMarks op b=false):PTf X c E (.Compare a [op] [b] pos) (e1 asB (e2 g fa fb)):=
 PT.imp (yJ ho ha hb hm) fun σ H Q h=>tV2 vK hp (rL c) (kG c) (mJ h)
theorem l9{f:Sg->R PyData}(h:PD X c E e f)(he:∀ whole,isTrue e X.env whole=(do let v <-whole;standAt e.pos;holding [v] (truthy v)):=by intro _;rfl):PTf X c E e (e1 asB f):=
 PT.imp (L2.l9 h he) fun σ H Q h=>mJ h
def iI(f g:Sg->R Bool):Sg->R Bool:=fun ρ=>(f ρ).bind fun b=>if b=true then g ρ else .ok false
def bOr(f g:Sg->R Bool):Sg->R Bool:=fun ρ=>(f ρ).bind fun b=>if b=true then .ok true else g ρ
def wY(f:Sg->R Bool):Sg->R Bool:=fun ρ=>(f ρ).bind fun b=>.ok (!b)
abbrev PWf(X:Cx)(c:Ct)(E:XK)(e:Expr)(f:Sg->R Bool):Prop:=PW X e (tTf c E f)
theorem PW.imp{X:Cx}{e:Expr}{t t':TT}(h:PW X e t)(i:∀ σ H Q,t' σ H Q->t σ H Q):PW X e t':=fun whole pins s σ H Q I q=>h whole pins s σ H Q I (i σ H Q q)
theorem aMH{f g:Sg->R Bool}{σ:L2.St}{H:Hp}{Q:Bool->Hp->Prop}(h:tTf c E (iI f g) σ H Q):aIC (tTf c E f) (tTf c E g) σ H Q:=by
 obtain ⟨ρ,F,ab,h⟩:=h
 refine ⟨ρ,F,ab,(Rk.bind h).imp fun b _ q F' H' s=>?_⟩
 cases b with
 | true=>exact ⟨ρ,F',ab.ext s,(Rk.ext s q).imp fun d _ z F2 H2 s2=>z F2 H2 (s.trans s2)⟩
 | false=>exact Rk.ok q F' H' s
theorem tor{f g:Sg->R Bool}{σ:L2.St}{H:Hp}{Q:Bool->Hp->Prop}(h:tTf c E (bOr f g) σ H Q):tOr (tTf c E f) (tTf c E g) σ H Q:=by
 obtain ⟨ρ,F,ab,h⟩:=h
 refine ⟨ρ,F,ab,(Rk.bind h).imp fun b _ q F' H' s=>?_⟩
 cases b with
 | false=>exact ⟨ρ,F',ab.ext s,(Rk.ext s q).imp fun d _ z F2 H2 s2=>z F2 H2 (s.trans s2)⟩
 | true=>exact Rk.ok q F' H' s
theorem kN{f:Sg->R Bool}(h:PTf X c E a f):PWf X c E (.BoolOp .And [a] pos) f:=L2.kN h
theorem vZ{f:Sg->R Bool}(h:PTf X c E a f):PWf X c E (.BoolOp .Or [a] pos) f:=L2.vZ h
theorem kQ{f g:Sg->R Bool}{rest:List Expr}(h:PTf X c E a f)(h2:PWf X c E (.BoolOp .And (b::rest) pos) g):PWf X c E (.BoolOp .And (a::b::rest) pos) (iI f g):=PW.imp (L2.kQ h h2) fun _ _ _ q=>aMH q
theorem zN{f g:Sg->R Bool}{rest:List Expr}(h:PTf X c E a f)(h2:PWf X c E (.BoolOp .Or (b::rest) pos) g):PWf X c E (.BoolOp .Or (a::b::rest) pos) (bOr f g):=PW.imp (L2.zN h h2) fun _ _ _ q=>tor q
theorem q0{f:Sg->R Bool}(h:PTf X c E a f):PTf X c E (.UnaryOp .Not a pos) (wY f):=PT.imp (L2.q0 h) fun σ H Q ⟨ρ,F,ab,k⟩=>⟨ρ,F,ab,(Rk.bind k).imp fun b _ q F' H' s=>Rk.ok q F' H' s⟩
noncomputable def i6(f g:Sg->R PyData):Sg->R PyData:=fun ρ=>(f ρ).bind fun x=>(asB x).bind fun b=>if b=true then g ρ else .ok (.bool false)
def eOr(f g:Sg->R PyData):Sg->R PyData:=fun ρ=>(f ρ).bind fun x=>(asB x).bind fun b=>if b=true then .ok (.bool true) else g ρ
def aMI(f:Sg->R PyData):Sg->R PyData:=fun ρ=>(f ρ).bind fun x=>(asB x).bind fun b=>.ok (.bool (!b))
def eIf{α:Type}(t:Sg->R Bool)(f g:Sg->R α):Sg->R α:=fun ρ=>(t ρ).bind fun b=>if b=true then f ρ else g ρ
theorem oS{op}{f:Sg->R PyData}(h:PD X c E a f):PD X c E (.BoolOp op [a] pos) f:=aID h
theorem mK{f g:Sg->R PyData}{rest:List Expr}(h:PD X c E a f)(h2:PD X c E (.BoolOp .And (b::rest) pos) g):PD X c E (.BoolOp .And (a::b::rest) pos) (i6 f g):=PE.imp (aIE h h2) fun σ H Q zz0=>by
 obtain ⟨ρ,F,ab,k⟩:=zz0
 refine ⟨ρ,F,ab,(Rk.bind k).imp fun d _ q v F' H' s r=>?_⟩
 cases d with
 | bool b=>
  refine ⟨b,DatV.bl_of r,?_⟩
  cases b with
  | true=>exact oN ⟨ρ,F',ab.ext s,(Rk.ext s q).imp fun d _ z v F2 H2 s2=>z v F2 H2 (s.trans s2)⟩
  | false=>exact oM (Rk.ok q (.bl false) F' H' s (.bl false))
 | _=>exact False.elim q
theorem aLA{t:Sg->R Bool}{f g:Sg->R PyData}{q:Expr}(hq:PTf X c E q t)(h:PD X c E a f)(h2:PD X c E b g):PD X c E (.IfExp q a b pos) (eIf t f g):=PE.imp (aDD hq h h2) fun σ H Q zz0=>by
 obtain ⟨ρ,F,ab,k⟩:=zz0
 refine ⟨ρ,F,ab,(Rk.bind k).imp fun b _ q F' H' s=>?_⟩
 cases b with
 | true=>exact oN ⟨ρ,F',ab.ext s,(Rk.ext s q).imp fun d _ z v F2 H2 s2=>z v F2 H2 (s.trans s2)⟩
 | false=>exact oM ⟨ρ,F',ab.ext s,(Rk.ext s q).imp fun d _ z v F2 H2 s2=>z v F2 H2 (s.trans s2)⟩
noncomputable def eCh(g g':PyData->PyData->R PyData)(fa fb fc:Sg->R PyData):Sg->R PyData:=fun ρ=>(fa ρ).bind fun x=>(fb ρ).bind fun y=>(g x y).bind fun z=>(asB z).bind fun k=>if k=true then (fc ρ).bind fun w=>g' y w else .ok (.bool false)
theorem aJG{g g':PyData->PyData->R PyData}(hp:b8 g)(hp':b8 g'){fa fb fc:Sg->R PyData}{σ:L2.St}{H:Hp}{Q:VK}(h:tV (bT c) c E (eCh g g' fa fb fc) σ H Q) :
  tChain (r2D (aV c) (aV c) (bT c) g) (r2D (aV c) (aV c) (bT c) g') (tV (aV c) c E fa) (tV (aV c) c E fb) (tV (aV c) c E fc) σ H Q:=by
 obtain ⟨ρ,F,ab,h⟩:=h
 refine ⟨ρ,F,ab,(Rk.bind h).imp fun x _ q v F1 H1 s1 rv=>?_⟩
 refine ⟨ρ,F1,ab.ext s1,((Rk.bind q).ext s1).imp fun y _ q u F2 H2 s2 ru=>?_⟩
 cases eg:g x y with
 | bad=>rw[eg] at q;exact q.elim
 | ex e=>exact absurd eg (hp x y e)
 | ok z=>
  rw[eg] at q
  refine ⟨H,H1,F2,x,y,z,s2.fh,aY.ext s2 rv,ru,eg,fun w F3 H3 s3 rw'=>?_⟩
  have s13:=(s1.trans s2).trans s3
  cases z with
  | bool k=>
   refine ⟨k,DatV.bl_of rw',?_⟩
   cases k with
   | false=>exact oM (Rk.ok q (.bl false) F3 H3 s13 (.bl false))
   | true=>
    have q':Rk c E F H ((fc ρ).bind fun w=>g' y w) (fun d=>∀ v F' H',Ext F H F' H'->bT c d v H F' H'->Q v H'):=q
    refine oN ⟨ρ,F3,ab.ext s13,((Rk.bind q').ext s13).imp fun w _ q v' F4 H4 s4 rw2=>?_⟩
    cases eg2:g' y w with
    | bad=>rw[eg2] at q;exact q.elim
    | ex e=>exact absurd eg2 (hp' y w e)
    | ok z2=>
     rw[eg2] at q
     exact ⟨H1,H3,F4,y,w,z2,s4.fh,aY.ext (s3.trans s4) ru,rw2,eg2,fun w' F5 H5 s5 r5=>Rk.ok q w' F5 H5 ((s13.trans s4).trans s5) r5⟩
  | _=>exact False.elim q
theorem qK{op op':CmpOp}{g g':PyData->PyData->R PyData}{cc:Expr}{fa fb fc:Sg->R PyData}(ho:OpR X (compareOp op) (r2D (aV c) (aV c) (bT c) g))(hp:b8 g)(ho':OpR X (compareOp op') (r2D (aV c) (aV c) (bT c) g'))(hp':b8 g')
  (ha:PR X c E a fa) (hb:PR X c E b fb) (hc:PR X c E cc fc) (hm:lastMarks [op,op'] [b,cc]=false:=by with_unfolding_all rfl):PTf X c E (.Compare a [op,op'] [b,cc] pos) (e1 asB (eCh g g' fa fb fc)):=
 PT.imp (L2.qK ho ho' ha hb hc hm) fun σ H Q h=>aJG hp hp' (mJ h)
end
end Fl
namespace Fl
open PySem L2 PyProof.Rows
def AFs(g:Gb)(K:Frag)(mg:Str->Option Value)(F:Hp):List A->List V->Prop
 | [],[]=>True
 | a::as,v::vs=>AF g K mg F a v/\AFs g K mg F as vs
 | _,_=>False
theorem AFs.same{g:Gb}{K:Frag}{mg:Str->Option Value}{F F':Hp}(s:aO F F'):∀ {as:List A} {vs:List V},AFs g K mg F as vs->AFs g K mg F' as vs
 | [],[],_=>trivial
 | a::as,v::vs,h=>⟨AF.same s h.1,AFs.same s h.2⟩
theorem AFs.len{g:Gb}{K:Frag}{mg:Str->Option Value}{F:Hp}:∀ {as:List A} {vs:List V},AFs g K mg F as vs->vs.length=as.length
 | [],[],_=>rfl
 | a::as,v::vs,h=>by rw[List.length_cons,List.length_cons,AFs.len h.2]
theorem PA.imp{X:Cx}{es:List Expr}{t t':TA}(h:PA X es t)(i:∀ σ H Q,t' σ H Q->t σ H Q):PA X es t':=fun pos pins s σ H Q I q=>h pos pins s σ H Q I (i σ H Q q)
def tAd(c:Ct)(E:XK)(f:Sg->R (List PyData)):TA:=fun σ H Q=>∃ ρ F,Ab c ρ σ F H/\Rk c E F H (f ρ) fun ds=>∀ vs F' H',Ext F H F' H'->DatVs c.K F' vs ds->Q vs H'
def tAv(c:Ct)(E:XK)(f:Sg->R (List A)):TA:=fun σ H Q=>∃ ρ F,Ab c ρ σ F H/\Rk c E F H (f ρ) fun ds=>∀ vs F' H',Ext F H F' H'->AFs c.g c.K c.mg F' ds vs->Q vs H'
abbrev PAd(X:Cx)(c:Ct)(E:XK)(es:List Expr)(f:Sg->R (List PyData)):Prop:=PA X es (tAd c E f)
abbrev PAv(X:Cx)(c:Ct)(E:XK)(es:List Expr)(f:Sg->R (List A)):Prop:=PA X es (tAv c E f)
noncomputable def aS{α:Type}:Sg->R (List α):=fun _=>.ok []
def aB{α:Type}(f:Sg->R α)(g:Sg->R (List α)):Sg->R (List α):=fun ρ=>(f ρ).bind fun x=>(g ρ).bind fun xs=>.ok (x::xs)
section
variable{X:Cx}{c:Ct}{E:XK}{e a b:Expr}{es:List Expr}{pos:Pos}
theorem bO:PAd X c E [] aS:=PA.imp aX fun σ H Q ⟨ρ,F,ab,k⟩=>Rk.ok k [] F H (Ext.refl ab.fh) .nil
theorem bQ:PAv X c E [] aS:=PA.imp aX fun σ H Q ⟨ρ,F,ab,k⟩=>Rk.ok k [] F H (Ext.refl ab.fh) trivial
theorem aM{f:Sg->R PyData}{g:Sg->R (List PyData)}(h:PD X c E e f)(h2:PAd X c E es g)(hs:starEach (e::es) X.env=(false,eval e X.env)::starEach es X.env:=by rfl):PAd X c E (e::es) (aB f g):=PA.imp (aP h h2 hs) fun σ H Q zz0=>by
 obtain ⟨ρ,F,ab,k⟩:=zz0
 refine ⟨ρ,F,ab,(Rk.bind k).imp fun x _ q v F1 H1 s1 r1=>⟨ρ,F1,ab.ext s1,((Rk.bind q).ext s1).imp fun xs _ q vs F2 H2 s2 r2=>?_⟩⟩
 exact Rk.ok q (v::vs) F2 H2 (s1.trans s2) (.cons (DatV.same s2.ff r1) r2)
theorem aG{f:Sg->R A}{g:Sg->R (List A)}(h:PV X c E e f)(h2:PAv X c E es g)(hs:starEach (e::es) X.env=(false,eval e X.env)::starEach es X.env:=by rfl):PAv X c E (e::es) (aB f g):=PA.imp (aP h h2 hs) fun σ H Q zz0=>by
 obtain ⟨ρ,F,ab,k⟩:=zz0
 refine ⟨ρ,F,ab,(Rk.bind k).imp fun x _ q v F1 H1 s1 r1=>⟨ρ,F1,ab.ext s1,((Rk.bind q).ext s1).imp fun xs _ q vs F2 H2 s2 r2=>?_⟩⟩
 exact Rk.ok q (v::vs) F2 H2 (s1.trans s2) ⟨AF.same s2.ff r1,r2⟩
def dF(f:Sg->R (List PyData)):Sg->R PyData:=fun ρ=>(f ρ).bind fun xs=>if xs.length<=16777216 then .ok (.tuple xs) else .bad
def fG(f:Sg->R (List PyData)):Sg->R (List PyData):=fun ρ=>(f ρ).bind fun xs=>if xs.length<=16777216 then .ok xs else .bad
theorem dQ:sizeLine=16777216:=sizeLine_eq
theorem dW{x1}{f:Sg->R (List PyData)}(h:PAd X c E es f):PD X c E (.Tuple es x1 pos) (dF f):=PE.imp (aIU h) fun σ H Q zz0=>by
 obtain ⟨ρ,F,ab,k⟩:=zz0
 refine ⟨ρ,F,ab,(Rk.bind k).imp fun xs _ q vs F1 H1 s1 r1=>?_⟩
 by_cases hz:xs.length<=16777216
 ·rw[if_pos hz] at q
  refine ⟨by rw[r1.length,dQ];exact hz,fun p hp=>?_⟩
  exact Rk.ok q (.ref p) _ _ (s1.trans (Ext.new s1.fh hp)) (.tup (SqT.of aW) (r1.same (aO.upd (cA s1.fh hp))))
 ·rw[if_neg hz] at q;exact q.elim
theorem gB{f:Sg->R (List PyData)}(h:PAd X c E es f):PN X c E (.List es pos) (fG f):=PE.imp (aBJ h) fun σ H Q zz0=>by
 obtain ⟨ρ,F,ab,k⟩:=zz0
 refine ⟨ρ,F,ab,(Rk.bind k).imp fun xs _ q vs F1 H1 s1 r1=>?_⟩
 by_cases hz:xs.length<=16777216
 ·rw[if_pos hz] at q
  refine ⟨by rw[r1.length,dQ];exact hz,fun p hp=>?_⟩
  exact Rk.ok q (.ref p) _ _ (s1.trans (Ext.own s1.fh hp)) ⟨p,vs,rfl,cA s1.hh hp,aW,cA s1.fh hp,r1⟩
 ·rw[if_neg hz] at q;exact q.elim
noncomputable def dLen:PyData->R PyData
 | .str z=>if z.length<=16777216 then .ok (.int z.length) else .bad
 | .list xs=>.ok (.int xs.length)
 | .tuple xs=>.ok (.int xs.length)
 | _=>.bad
theorem plain_len:mG dLen:=by intro a e h;unfold dLen at h;split at h<;>(try split at h)<;>cases h
theorem c7{fa:Sg->R PyData}(hK:X.K=c.K)(h0:PE X e (tCB (fun xs H Q=>∃ x n,xs=[x]/\aIR X.K x H n/\Q (.int n) H) (d0 (tV (aV c) c E fa) gG))):PD X c E e (e1 dLen fa):=
 PE.imp h0 fun σ H Q h=>by
  obtain ⟨ρ,F,ab,k⟩:=tV1 (Ra:=aV c) vL plain_len (kG c) h
  refine ⟨ρ,F,ab,k.imp fun d _ q v F' H' s r=>?_⟩
  obtain ⟨H0,F1,a,d',sf,ra,eg,q⟩:=q v F' H' s r
  unfold dLen at eg
  split at eg
  ·rename_i z
   split at eg
   ·rename_i hz
    cases eg
    obtain rfl:=aY.str_of ra
    exact ⟨_,_,rfl,⟨by rw[dQ];exact hz,rfl⟩,q _ F1 H' (Ext.refl sf) (.int _)⟩
   ·cases eg
  ·cases eg
   obtain ⟨p,vs,rfl,h1,h2⟩:=aY.lst_of sf ra
   rw[<-hK] at h1
   exact ⟨_,vs.length,rfl,.inl ⟨vs,h1,rfl⟩,q _ F1 H' (Ext.refl sf) (by rw[h2.length];exact .int _)⟩
  ·cases eg
   obtain ⟨p,vs,rfl,_,h1,h2⟩:=aY.tup_of sf ra
   rw[<-hK] at h1
   exact ⟨_,vs.length,rfl,.inr ⟨vs,h1,rfl⟩,q _ F1 H' (Ext.refl sf) (by rw[h2.length];exact .int _)⟩
  ·cases eg
noncomputable def dTup:PyData->R PyData
 | .list xs=>.ok (.tuple xs)
 | .tuple xs=>.ok (.tuple xs)
 | _=>.bad
theorem aCA:mG dTup:=by intro a e h;unfold dTup at h;split at h<;>cases h
theorem kW{fa:Sg->R PyData}(hK:X.K=c.K)(h0:PE X e (tCB (fun xs H Q=>∃ p ys,xs=[.ref p]/\((SqL X.K H p ys/\∀ l,H l=none->Q (.ref l) (upd H l (.tup ys)))\/(SqT X.K H p ys/\Q (.ref p) H))) (d0 (tV (aV c) c E fa) gG))):PD X c E e (e1 dTup fa):=
 PE.imp h0 fun σ H Q h=>by
  obtain ⟨ρ,F,ab,k⟩:=tV1 (Ra:=aV c) vL aCA (kG c) h
  refine ⟨ρ,F,ab,k.imp fun d _ q v F' H' s r=>?_⟩
  obtain ⟨H0,F1,a,d',sf,ra,eg,q⟩:=q v F' H' s r
  unfold dTup at eg
  split at eg
  ·cases eg
   obtain ⟨p,vs,rfl,h1,h2⟩:=aY.lst_of sf ra
   rw[<-hK] at h1
   exact ⟨p,vs,rfl,.inl ⟨h1,fun l hl=>q _ _ _ (Ext.new sf hl) (.tup (SqT.of aW) (h2.same (aO.upd (cA sf hl))))⟩⟩
  ·cases eg
   obtain ⟨p,vs,rfl,f1,h1,h2⟩:=aY.tup_of sf ra
   rw[<-hK] at h1
   exact ⟨p,vs,rfl,.inr ⟨h1,q _ F1 H' (Ext.refl sf) (.tup f1 h2)⟩⟩
  ·cases eg
noncomputable def aJH:PyData->R (List PyData)
 | .list xs=>.ok xs
 | .tuple xs=>.ok xs
 | _=>.bad
noncomputable def dInt:PyData->R PyData
 | .int i=>.ok (.int i)
 | .bool b=>.ok (.int (if b=true then 1 else 0))
 | _=>.bad
theorem aCB:mG dInt:=by intro a e h;unfold dInt at h;split at h<;>cases h
theorem yV{fa:Sg->R PyData}(h0:PE X e (tCB (fun xs H Q=>(∃ i,xs=[.int i]/\Q (.int i) H)\/∃ k,xs=[.bl k]/\Q (.int (if k then 1 else 0)) H) (d0 (tV (aV c) c E fa) gG))):PD X c E e (e1 dInt fa):=
 PE.imp h0 fun σ H Q h=>by
  obtain ⟨ρ,F,ab,k⟩:=tV1 (Ra:=aV c) vL aCB (kG c) h
  refine ⟨ρ,F,ab,k.imp fun d _ q v F' H' s r=>?_⟩
  obtain ⟨H0,F1,a,d',sf,ra,eg,q⟩:=q v F' H' s r
  unfold dInt at eg
  split at eg
  ·cases eg
   obtain rfl:=aY.int_of ra
   exact .inl ⟨_,rfl,q _ F1 H' (Ext.refl sf) (.int _)⟩
  ·rename_i b
   cases eg
   obtain rfl:=aY.bl_of ra
   exact .inr ⟨b,rfl,q _ F1 H' (Ext.refl sf) (by cases b<;>exact .int _)⟩
  ·cases eg
noncomputable def aLB:List PyData->Option (List Bool)
 | []=>some []
 | .bool b::t=>(aLB t).map (b :: ·)
 | _=>none
end
end Fl
namespace Fl
open PySem L2 PyProof.Rows
inductive Fw where
 | nx (ρ:Sg)|bk (ρ:Sg)|ct (ρ:Sg)|rt (a:A)
def AR(g:Gb)(K:Frag)(mg:Str->Option Value)(H F' H':Hp):A->V->Prop
 | .l xs,v=>∃ p us,v=.ref p/\H p=none/\H' p=some (.lst us)/\F' p=none/\DatVs K F' us xs
 | a,v=>AF g K mg F' a v
theorem AR.of{g:Gb}{K:Frag}{mg:Str->Option Value}{H F' H':Hp}{a:A}{v:V}(h:AF g K mg F' a v):AR g K mg H F' H' a v:=by
 cases a with
 | l xs=>exact False.elim h
 | _=>exact h
def hX(c:Ct)(F:Hp)(D:iQ):Fw->Prop
 | .nx ρ=>∀ σ' F' H',aO F F'->Ab c ρ σ' F' H'->D.nx σ' H'
 | .bk ρ=>∀ σ' F' H',aO F F'->Ab c ρ σ' F' H'->D.bk σ' H'
 | .ct ρ=>∀ σ' F' H',aO F F'->Ab c ρ σ' F' H'->D.ct σ' H'
 | .rt a=>∀ v F' H',Ext c.F0 c.H0 F' H'->AR c.g c.K c.mg c.H0 F' H' a v->D.rt v H'
theorem hX.same{c:Ct}{F F1:Hp}{D:iQ}(s:aO F F1):∀ {w:Fw},hX c F D w->hX c F1 D w
 | .nx ρ,h=>fun σ' F' H' s' ab=>h σ' F' H' (fun a o z=>s' a o (s a o z)) ab
 | .bk ρ,h=>fun σ' F' H' s' ab=>h σ' F' H' (fun a o z=>s' a o (s a o z)) ab
 | .ct ρ,h=>fun σ' F' H' s' ab=>h σ' F' H' (fun a o z=>s' a o (s a o z)) ab
 | .rt a,h=>h
def tSf(c:Ct)(E:XK)(f:Sg->R Fw):TS:=fun D σ H=>∃ ρ F,Ab c ρ σ F H/\Rk c E F H (f ρ) (hX c F D)
abbrev PSf(X:Cx)(c:Ct)(E:XK)(st:Stmt)(f:Sg->R Fw):Prop:=PS X st (tSf c E f)
abbrev kX(X:Cx)(c:Ct)(E:XK)(st:List Stmt)(f:Sg->R Fw):Prop:=PSs X st (tSf c E f)
theorem get_set{α:Type}{l:List α}{i j:Nat}{x y:α}(h:(l.set i x)[j]? = some y):(i=j/\y=x/\i < l.length)\/(i≠j/\l[j]? = some y):=by
 by_cases e:i=j
 ·subst e
  by_cases hl:i < l.length
  · rw [List.getElem?_set_self hl] at h; exact .inl ⟨rfl, (Option.some.inj h).symm, hl⟩
  · rw [List.getElem?_eq_none_iff.mpr (by rw [List.length_set]; omega)] at h; cases h
 ·rw[List.getElem?_set_ne e] at h;exact .inr ⟨e,h⟩
theorem Ab.setF{c:Ct}{ρ:Sg}{σ:L2.St}{F H:Hp}{i:Nat}{a:A}{v:V}(b:Ab c ρ σ F H)(ha:AO c F H a v)(hn:a.own=true->∀ (j:Nat) (a':A),j≠i->ρ[j]? = some (some a')->a'.own=true->σ[j]? ≠ some (some v)):Ab c (ρ.set i (some a)) (σ.set i (some v)) F H where
 len:=by rw[List.length_set,List.length_set];exact b.len
 fh:=b.fh
 slot:=fun j a' h=>by
  rcases get_set h with ⟨e,q,hl⟩|⟨ne,q⟩
  ·subst e
   cases q
   exact ⟨v,List.getElem?_set_self (by rw[<-b.len];exact hl),ha⟩
  ·rw[List.getElem?_set_ne ne];exact b.slot j a' q
 apart:=fun j k a' b' hjk h1 h2 o1 o2=>by
  rcases get_set h1 with ⟨e,q,hl⟩|⟨ne,q⟩
  ·subst e
   cases q
   rcases get_set h2 with ⟨e',q',hl'⟩|⟨ne',q'⟩
   ·exact absurd e' hjk
   ·rw[List.getElem?_set_self (by rw[<-b.len];exact hl),List.getElem?_set_ne ne']
    exact (hn o1 k b' (Ne.symm hjk) q' o2).symm
  ·rcases get_set h2 with ⟨e',q',hl'⟩|⟨ne',q'⟩
   ·subst e'
    cases q'
    rw[List.getElem?_set_self (by rw[<-b.len];exact hl'),List.getElem?_set_ne ne]
    exact hn o2 j a' hjk q o1
   ·rw[List.getElem?_set_ne ne,List.getElem?_set_ne ne']
    exact b.apart j k a' b' hjk q q' o1 o2
 f0:=b.f0
 h0:=b.h0
 n0:=b.n0
 t0:=b.t0
theorem AO.of{c:Ct}{F H:Hp}:∀ {a:A} {v:V},AF c.g c.K c.mg F a v->AO c F H a v
 | .d x,v,h=>h
 | .x e,v,h=>h
 | .g k n G,v,h=>h
 | .f kvs,v,h=>h
 | .o e,v,h=>h
theorem AF.notOwn{g:Gb}{K:Frag}{mg:Str->Option Value}{F:Hp}:∀ {a:A} {v:V},AF g K mg F a v->a.own=false
 | .d x,v,h=>rfl
 | .x e,v,h=>rfl
 | .g k n G,v,h=>rfl
 | .f kvs,v,h=>rfl
 | .o e,v,h=>rfl
theorem Ab.setA{c:Ct}{ρ:Sg}{σ:L2.St}{F H:Hp}{i:Nat}{a:A}{v:V}(b:Ab c ρ σ F H)(ha:AF c.g c.K c.mg F a v):Ab c (ρ.set i (some a)) (σ.set i (some v)) F H:=
 b.setF (AO.of ha) fun z=>by rw[AF.notOwn ha] at z;cases z
theorem Ab.setN{c:Ct}{ρ:Sg}{σ:L2.St}{F H F' H':Hp}{i:Nat}{xs:List PyData}{v:V}(b:Ab c ρ σ F H)(e:Ext F H F' H')(h:aAM c xs v H F' H'):Ab c (ρ.set i (some (.l xs))) (σ.set i (some v)) F' H':=by
 obtain ⟨p,vs,rfl,h1,h2,h3,h4⟩:=h
 refine (b.ext e).setF ⟨p,vs,rfl,h2,h3,cA b.h0 h1,h4⟩ fun _ j a' _ ha' ho=>?_
 obtain ⟨w,hw,q⟩:=b.slot j a' ha'
 rw[hw]
 intro z
 cases z
 obtain ⟨p',o',e',q1,_⟩:=q.at ho
 cases e'
 rw[h1] at q1
 cases q1
theorem Ab.putO{c:Ct}{ρ:Sg}{σ:L2.St}{F H:Hp}{i:Nat}{a a':A}{p:Addr}{o:HO}(b:Ab c ρ σ F H)(hi:ρ[i]? = some (some a))(ho:a.own=true)(hp:σ[i]? = some (some (.ref p)))(ho':a'.own=true)(hy:AO c F (upd H p o) a' (.ref p)) :
  Ab c (ρ.set i (some a')) σ F (upd H p o):=by
 obtain ⟨v,h1,q⟩:=b.slot i _ hi
 rw[hp] at h1
 cases h1
 obtain ⟨p',o',e',h2,h3,h4⟩:=q.at ho
 cases e'
 have other:∀ (j:Nat) (a:A) (w:V),j≠i->ρ[j]? = some (some a)->σ[j]? = some (some w)->AO c F H a w->AO c F (upd H p o) a w:=by
  intro j a2 w hj ha hw q2
  by_cases own:a2.own=true
  ·refine q2.off fun z=>?_
   subst z
   exact b.apart j i _ _ hj ha hi own ho (by rw[hw,hp])
  ·cases a2 with
   | l zs=>exact absurd rfl own
   | m zs=>exact absurd rfl own
   | d x=>exact q2
   | x e=>exact q2
   | g k n f=>exact q2
   | k S=>exact q2
   | f S=>exact q2
   | o S=>exact q2
 exact {
  len:=by rw[List.length_set];exact b.len
  fh:=fun a o z=>by rw[aK (fun w=>by subst w;rw[h3] at z;cases z)];exact b.fh a o z
  slot:=fun j a h=>by
   rcases get_set h with ⟨e,q,hl⟩|⟨ne,q⟩
   ·subst e
    cases q
    exact ⟨_,hp,hy⟩
   ·obtain ⟨w,hw,q2⟩:=b.slot j a q
    exact ⟨w,hw,other j a w (Ne.symm ne) q hw q2⟩
  apart:=fun j k a' b' hjk h1 h2 o1 o2=>by
   rcases get_set h1 with ⟨e,q,hl⟩|⟨ne,q⟩
   ·subst e
    cases q
    rcases get_set h2 with ⟨e',q',hl'⟩|⟨ne',q'⟩
    ·exact absurd e' hjk
    ·exact b.apart _ k _ b' hjk hi q' ho o2
   ·rcases get_set h2 with ⟨e',q',hl'⟩|⟨ne',q'⟩
    ·subst e'
     exact b.apart j _ a' _ hjk q hi o1 ho
    ·exact b.apart j k a' b' hjk q q' o1 o2
  f0:=b.f0
  h0:=fun a o z=>by rw[aK (fun w=>by subst w;rw[h4] at z;cases z)];exact b.h0 a o z
  n0:=b.n0
  t0:=b.t0}
theorem Ab.putL{c:Ct}{ρ:Sg}{σ:L2.St}{F H:Hp}{i:Nat}{xs ys:List PyData}{p:Addr}{vs:List V}(b:Ab c ρ σ F H)(hi:ρ[i]? = some (some (.l xs)))(hp:σ[i]? = some (some (.ref p)))(hy:DatVs c.K F vs ys) :
  Ab c (ρ.set i (some (.l ys))) σ F (upd H p (.lst vs)):=by
 obtain ⟨v,h1,p',us,rfl,h2,h3,h4,h5⟩:=b.slot i _ hi
 rw[hp] at h1
 cases h1
 exact b.putO hi rfl hp rfl ⟨p,vs,rfl,aW,h3,h4,hy⟩
theorem Ab.putM{c:Ct}{ρ:Sg}{σ:L2.St}{F H:Hp}{i:Nat}{kvs kvs':List (PyData×PyData)}{p:Addr}{es:List Ent}{ep:Nat}(b:Ab c ρ σ F H)(hi:ρ[i]? = some (some (.m kvs)))(hp:σ[i]? = some (some (.ref p)))(hy:MapRel c.K F es kvs') :
  Ab c (ρ.set i (some (.m kvs'))) σ F (upd H p (jK c.w p es ep)):=by
 obtain ⟨v,h1,p',us,rfl,h2,h3,h4,h5⟩:=b.slot i _ hi
 rw[hp] at h1
 cases h1
 exact b.putO hi rfl hp rfl ⟨p,es,rfl,⟨ep,aW⟩,h3,h4,hy⟩
theorem Ab.setM{c:Ct}{ρ:Sg}{σ:L2.St}{F H F' H':Hp}{i:Nat}{kvs:List (PyData×PyData)}{p:Addr}{es:List Ent}{ep:Nat}(b:Ab c ρ σ F H)(e:Ext F H F' H')(h1:H p=none)(h2:H' p=some (jK c.w p es ep))(h3:F' p=none)(h4:MapRel c.K F' es kvs):Ab c (ρ.set i (some (.m kvs))) (σ.set i (some (.ref p))) F' H':=by
 refine (b.ext e).setF ⟨p,es,rfl,⟨ep,h2⟩,h3,cA b.h0 h1,h4⟩ fun _ j a' _ ha' ho=>?_
 obtain ⟨w,hw,q⟩:=b.slot j a' ha'
 rw[hw]
 intro z
 cases z
 obtain ⟨p',o',e',q1,_⟩:=q.at ho
 cases e'
 rw[h1] at q1
 cases q1
noncomputable def fz(i:Nat)(ρ:Sg):Sg:=match ρ[i]? with
 | some (some (.l xs))=>ρ.set i (some (.d (.list xs)))
 | _=>ρ
theorem Ab.publ{c:Ct}{ρ:Sg}{σ:L2.St}{F H:Hp}{i:Nat}{a0 a1:A}{p:Addr}{o:HO}(b:Ab c ρ σ F H)(hi:ρ[i]? = some (some a0))(hp:σ[i]? = some (some (.ref p)))(ow:a0.own=true)(h2:H p=some o)(h3:F p=none)(h4:c.H0 p=none)(no:a1.own=false)(hr:AO c (upd F p o) H a1 (.ref p)):Ab c (ρ.set i (some a1)) σ (upd F p o) H:=by
 have sf:aO F (upd F p o):=aO.upd h3
 exact {
  len:=by rw[List.length_set];exact b.len
  fh:=fun a o' z=>by
   by_cases w:a=p
   ·subst w;rw[aW] at z;rw[h2];exact z
   ·rw[aK w] at z;exact b.fh a o' z
  slot:=fun j a h=>by
   rcases get_set h with ⟨e,q,hl⟩|⟨ne,q⟩
   ·subst e
    cases q
    exact ⟨_,hp,hr⟩
   ·obtain ⟨w,hw,q2⟩:=b.slot j a q
    refine ⟨w,hw,?_⟩
    have off:∀ r,a.own=true->w=.ref r->F r=none->upd F p o r=none:=fun r oa e f=>by
     rw[aK]
     ·exact f
     ·intro z
      subst z
      exact b.apart j i _ _ (Ne.symm ne) q hi oa ow (by rw[hw,hp,e])
    cases a with
    | l zs=>obtain ⟨r,ws,e,q1,q2,q3,q4⟩:=q2;exact ⟨r,ws,e,q1,off r rfl e q2,q3,q4.same sf⟩
    | m kvs=>obtain ⟨r,ws,e,q1,q2,q3,q4⟩:=q2;exact ⟨r,ws,e,q1,off r rfl e q2,q3,q4.same sf⟩
    | d x=>exact DatV.same sf q2
    | x e=>exact AF.same (g:=c.g) (K:=c.K) (mg:=c.mg) (a:=.x e) sf q2
    | g k n f=>exact AF.same (g:=c.g) (K:=c.K) (mg:=c.mg) (a:=.g k n f) sf q2
    | k S=>obtain ⟨S,f,cl,doc,pm,cc,ct,h0,h1,h2,h3,h4⟩:=q2;exact ⟨S,f,cl,doc,pm,cc,ct,h0,h1,sf _ _ h2,sf _ _ h3,h4⟩
    | f kvs=>exact AF.same (g:=c.g) (K:=c.K) (mg:=c.mg) (a:=.f kvs) sf q2
    | o e=>exact AF.same (g:=c.g) (K:=c.K) (mg:=c.mg) (a:=.o e) sf q2
  apart:=fun j k a' b' hjk h1 h2 o1 o2=>by
   rcases get_set h1 with ⟨e,q,hl⟩|⟨ne,q⟩
   ·cases q;rw[no] at o1;cases o1
   ·rcases get_set h2 with ⟨e',q',hl'⟩|⟨ne',q'⟩
    ·cases q';rw[no] at o2;cases o2
    ·exact b.apart j k a' b' hjk q q' o1 o2
  f0:=fun a o z=>sf a o (b.f0 a o z)
  h0:=b.h0
  n0:=fun a z n=>by
   by_cases w:a=p
   ·subst w;exact .inl h4
   ·rw[aK w] at n;exact b.n0 a z n
  t0:=b.t0}
theorem Ab.frz{c:Ct}{ρ:Sg}{σ:L2.St}{F H:Hp}(b:Ab c ρ σ F H)(i:Nat):∃ F',aO F F'/\Ab c (fz i ρ) σ F' H:=by
 unfold fz
 split
 ·rename_i xs hi
  obtain ⟨v,hp,p,vs,rfl,h2,h3,h4,h5⟩:=b.slot i _ hi
  exact ⟨_,aO.upd h3,b.publ hi hp rfl h2 h3 h4 rfl (.lst (SqL.of aW) (h5.same (aO.upd h3)))⟩
 ·exact ⟨F,cU F,b⟩
noncomputable def aLC:PyData->PyData->R PyData
 | .int i,.int j=>.ok (.int (i+j))
 | _,_=>.bad
section
variable{X:Cx}{c:Ct}{E:XK}{e a b:Expr}{st:Stmt}{rest:List Stmt}{pos:Pos}
def sFz(i:Nat)(f:Sg->R Fw):Sg->R Fw:=fun ρ=>f (fz i ρ)
theorem vN(i:Nat){f:Sg->R Fw}(h:PSf X c E st f):PSf X c E st (sFz i f):=PS.imp h fun D σ H zz0=>by
 obtain ⟨ρ,F,ab,k⟩:=zz0
 obtain ⟨F',s,ab'⟩:=ab.frz i
 refine ⟨fz i ρ,F',ab',?_⟩
 have k':Rk c E F H (f (fz i ρ)) (hX c F D):=k
 cases q:f (fz i ρ) with
 | bad=>rw[q] at k';exact k'
 | ok w=>rw[q] at k';exact hX.same s k'
 | ex e=>rw[q] at k';exact k'
noncomputable def sNx:Sg->R Fw:=fun ρ=>.ok (.nx ρ)
def aN(f g:Sg->R Fw):Sg->R Fw:=fun ρ=>(f ρ).bind fun w=>match w with
 | .nx ρ'=>g ρ'
 | w=>.ok w
theorem cJ:kX X c E [] sNx:=PSs.imp L2.cJ fun D σ H ⟨ρ,F,ab,k⟩=>Rk.ok k σ F H (cU F) ab
theorem aR{f:Sg->R Fw}(h:PSf X c E st f):kX X c E [st] f:=L2.aR h
theorem aE{f g:Sg->R Fw}(h:PSf X c E st f)(h2:kX X c E rest g):kX X c E (st::rest) (aN f g):=PSs.imp (L2.aE h h2) fun D σ H zz0=>by
 obtain ⟨ρ,F,ab,k⟩:=zz0
 refine ⟨ρ,F,ab,(Rk.bind k).imp fun w _ q=>?_⟩
 cases w with
 | nx ρ'=>
  intro σ' F' H' s ab'
  refine ⟨ρ',F',ab',?_⟩
  have q':Rk c E F H (g ρ') (hX c F D):=q
  cases eg:g ρ' with
  | bad=>rw[eg] at q';exact q'
  | ok w=>rw[eg] at q';exact hX.same s q'
  | ex e=>rw[eg] at q';exact q'
 | bk ρ'=>exact q
 | ct ρ'=>exact q
 | rt a=>exact q
def bN(f:Sg->R A):Sg->R Fw:=fun ρ=>(f ρ).bind fun a=>.ok (.rt a)
theorem bM{f:Sg->R A}(h:PV X c E e f):PSf X c E (.Return (some e) pos) (bN f):=PS.imp (L2.bM h) fun D σ H ⟨ρ,F,ab,k⟩=>
 ⟨ρ,F,ab,(Rk.bind k).imp fun a _ q v F' H' s r=>Rk.ok q v F' H' (ab.all.trans s) (AR.of r)⟩
noncomputable def aLD:Sg->R Fw:=fun _=>.ok (.rt (.d .none))
def sIf(t:Sg->R Bool)(f g:Sg->R Fw):Sg->R Fw:=fun ρ=>(t ρ).bind fun b=>if b=true then f ρ else g ρ
theorem Rk.fw{F F1 H H1:Hp}{D:iQ}{r:R Fw}(s:aO F F1)(k:Rk c E F H r (hX c F D)):Rk c E F1 H1 r (hX c F1 D):=by
 cases r with
 | bad=>exact k
 | ok w=>exact hX.same s k
 | ex e=>exact k
theorem dH{q:Expr}{sa sb:List Stmt}{t:Sg->R Bool}{f g:Sg->R Fw}(hq:PTf X c E q t)(ha:kX X c E sa f)(hb:kX X c E sb g):PSf X c E (.If q sa sb pos) (sIf t f g):=PS.imp (L2.dH hq ha hb) fun D σ H zz0=>by
 obtain ⟨ρ,F,ab,k⟩:=zz0
 refine ⟨ρ,F,ab,(Rk.bind k).imp fun b _ q F' H' s=>?_⟩
 cases b with
 | true=>exact oN ⟨ρ,F',ab.ext s,Rk.fw s.ff q⟩
 | false=>exact oM ⟨ρ,F',ab.ext s,Rk.fw s.ff q⟩
def a8(i:Nat)(f:Sg->R A):Sg->R Fw:=fun ρ=>(f ρ).bind fun a=>.ok (.nx (ρ.set i (some a)))
theorem aJ{i:Nat}{f:Sg->R A}(h:PS X st (l3 (tV (aEB c) c E f) (jW i))):PSf X c E st (a8 i f):=PS.imp h fun D σ H ⟨ρ,F,ab,k⟩=>
 ⟨ρ,F,ab,(Rk.bind k).imp fun a _ q v F' H' s r=>Rk.ok q _ F' H' s.ff ((ab.ext s).setA r)⟩
def fH(i:Nat)(f:Sg->R (List PyData)):Sg->R Fw:=fun ρ=>(f ρ).bind fun xs=>.ok (.nx (ρ.set i (some (.l xs))))
theorem jN{i:Nat}{f:Sg->R (List PyData)}(h:PS X st (l3 (tV (aAM c) c E f) (jW i))):PSf X c E st (fH i f):=PS.imp h fun D σ H ⟨ρ,F,ab,k⟩=>
 ⟨ρ,F,ab,(Rk.bind k).imp fun a _ q v F' H' s r=>Rk.ok q _ F' H' s.ff (ab.setN s r)⟩
def vP(f:Sg->R A):Sg->R Fw:=fun ρ=>(f ρ).bind fun _=>.ok (.nx ρ)
theorem eO{f:Sg->R A}(h:PS X st (vE (tV (aEB c) c E f))):PSf X c E st (vP f):=PS.imp h fun D σ H ⟨ρ,F,ab,k⟩=>
 ⟨ρ,F,ab,(Rk.bind k).imp fun a _ q v F' H' s r=>Rk.ok q _ F' H' s.ff (ab.ext s)⟩
def f8(i:Nat)(f:Sg->R PyData):Sg->R Fw:=fun ρ=>match ρ[i]? with
 | some (some (.l xs))=>(f ρ).bind fun x=>if xs.length < 16777216 then .ok (.nx (ρ.set i (some (.l (xs++[x]))))) else .bad
 | _=>.bad
theorem mL{i:Nat}{f:Sg->R PyData}(hK:X.K=c.K)(h:PS X st (vE (tBM X.K "list" sM (j9 i) (d0 (tV (bT c) c E f) gG)))):PSf X c E st (f8 i f):=PS.imp h fun D σ H ⟨ρ,F,ab,k⟩=>by
 unfold f8 at k
 split at k
 ·rename_i xs hi
  obtain ⟨v,hp,p,vs,rfl,h2,h3,h4,h5⟩:=ab.slot i _ hi
  refine ⟨_,hp,.inl ⟨rfl,vs,SqL.of h2⟩,ρ,F,ab,(Rk.bind k).imp fun x _ q u F1 H1 s1 r1=>?_⟩
  by_cases hz:xs.length < 16777216
  ·rw[if_pos hz] at q
   refine ⟨p,vs,u,rfl,rfl,s1.hh _ _ h2,by rw[h5.length,dQ];exact hz,?_⟩
   exact Rk.ok q σ F1 _ s1.ff ((ab.ext s1).putL hi hp ((h5.same s1.ff).append (.cons r1 .nil)))
  ·rw[if_neg hz] at q;exact q.elim
 ·exact k.elim
def aMJ(i:Nat)(g:PyData->PyData->R PyData)(f:Sg->R PyData):Sg->R Fw:=fun ρ=>(eV i ρ).bind fun x=>(f ρ).bind fun y=>(g x y).bind fun z=>.ok (.nx (ρ.set i (some (.d z))))
end
end Fl
namespace Fl
open PySem L2 PyProof.Rows
def Tg(c:Ct)(g:TG)(fs:PyData->Sg->Option Sg)(is:List Nat):Prop:=∀ (v:V) (x:PyData) (ρ ρ':Sg) (σ:L2.St) (F H:Hp) (Q:L2.St->Hp->Prop),Ab c ρ σ F H->DatV c.K F v x->fs x ρ=some ρ'->
 (∀ σ':L2.St,σ'.length=σ.length->(∀ j:Nat,j∉is->σ'[j]? = σ[j]?)->Ab c ρ' σ' F H->Q σ' H)->g v σ H Q
noncomputable def stN(i:Nat):PyData->Sg->Option Sg:=fun x ρ=>some (ρ.set i (some (.d x)))
theorem cF{c:Ct}(i:Nat):Tg c (jW i) (stN i) [i]:=fun v x ρ ρ' σ F H Q ab r e q=>by
 cases e
 exact q _ List.length_set (fun j hj=>List.getElem?_set_ne (by intro z;subst z;exact hj (by simp))) (ab.setA (a:=.d x) r)
noncomputable def stL:List (PyData->Sg->Option Sg)->List PyData->Sg->Option Sg
 | [],[],ρ=>some ρ
 | f::fs,x::xs,ρ=>(f x ρ).bind (stL fs xs)
 | _,_,_=>none
def Tgs(c:Ct)(g:TGs)(fs:List (PyData->Sg->Option Sg))(is:List Nat):Prop:=∀ (vs:List V) (xs:List PyData) (ρ ρ':Sg) (σ:L2.St) (F H:Hp) (Q:L2.St->Hp->Prop),Ab c ρ σ F H->DatVs c.K F vs xs->stL fs xs ρ=some ρ'->
 (∀ σ':L2.St,σ'.length=σ.length->(∀ j:Nat,j∉is->σ'[j]? = σ[j]?)->Ab c ρ' σ' F H->Q σ' H)->g vs σ H Q
theorem jO{c:Ct}:Tgs c aDE [] []:=fun vs xs ρ ρ' σ F H Q ab r e q=>by
 cases xs with
 | nil=>cases e;exact ⟨by cases r;rfl,q σ rfl (fun _ _=>rfl) ab⟩
 | cons x t=>cases e
theorem dL{c:Ct}{g:TG}{gs:TGs}{f:PyData->Sg->Option Sg}{fs:List (PyData->Sg->Option Sg)}{is js:List Nat}(h:Tg c g f is)(h2:Tgs c gs fs js):Tgs c (aFH g gs) (f::fs) (is++js):=fun vs xs ρ ρ' σ F H Q ab r e q=>by
 cases r with
 | nil=>cases e
 | cons r1 r2=>
  rename_i x d vs ds
  have e':(f d ρ).bind (stL fs ds)=some ρ':=e
  cases e1:f d ρ with
  | none=>rw[e1] at e';cases e'
  | some ρ1=>
   rw[e1] at e'
   refine ⟨_,_,rfl,h _ _ ρ ρ1 σ F H _ ab r1 e1 fun σ1 l1 k1 ab1=>h2 _ _ ρ1 ρ' σ1 F H _ ab1 r2 e' fun σ2 l2 k2 ab2=>q σ2 (l2.trans l1) (fun j hj=>?_) ab2⟩
   rw[List.mem_append,not_or] at hj
   exact (k2 j hj.2).trans (k1 j hj.1)
noncomputable def stT(fs:List (PyData->Sg->Option Sg)):PyData->Sg->Option Sg:=fun x ρ=>match x with
 | .tuple xs=>stL fs xs ρ
 | _=>none
theorem yW:∀ {fs:List (PyData->Sg->Option Sg)} {xs:List PyData} {ρ ρ':Sg},stL fs xs ρ=some ρ'->xs.length=fs.length
 | [],[],_,_,_=>rfl
 | [],_::_,_,_,h=>by cases h
 | _::_,[],_,_,h=>by cases h
 | f::fs,x::xs,ρ,ρ',h=>by
  have h':(f x ρ).bind (stL fs xs)=some ρ':=h
  cases e:f x ρ with
  | none=>rw[e] at h';cases h'
  | some ρ1=>
   rw[e] at h'
   have:=yW (fs:=fs) (xs:=xs) h'
   simp[this]
theorem kY{c:Ct}{gs:TGs}{fs:List (PyData->Sg->Option Sg)}{is:List Nat}{n:Nat}{K:Frag}(hK:K=c.K)(h:Tgs c gs fs is)(hn:fs.length=n):Tg c (aIG K n gs) (stT fs) is:=fun v x ρ ρ' σ F H Q ab r e q=>by
 cases x with
 | tuple xs=>
  obtain ⟨a,vs,rfl,h1,h2⟩:=r.tup_of
  subst hK
  exact ⟨a,vs,rfl,h1.same ab.fh,by rw[h2.length,yW e,hn],h vs xs ρ ρ' σ F H Q ab h2 e q⟩
 | _=>cases e
structure Yld(K:Frag)(J:It)(F B:Hp)(xs:List PyData):Prop where
 len:xs.length<=sizeLine
 go:∀ (i:Nat) F1 H1,aO F F1->aO F1 H1->aO B H1->i < xs.length->J.go i H1
 yld:∀ (i:Nat) F1 H1 v H2 x,aO F F1->aO F1 H1->aO B H1->J.yld i H1 v H2->xs[i]? = some x->∃ F2,Ext F1 H1 F2 H2/\DatV K F2 v x
 stop:∀ F1 H1,aO F F1->aO F1 H1->aO B H1->J.stop xs.length H1
def tI(c:Ct)(E:XK)(f:Sg->R (List PyData)):TI:=fun σ H Rr=>∃ ρ F,Ab c ρ σ F H/\Rk c E F H (f ρ) fun xs=>∀ J B F' H',Ext F H F' H'->aO B H'->Yld c.K J F' B xs->Rr J H'
def tI0(c:Ct)(E:XK)(f:Sg->R (List PyData)):TI:=fun σ H Rr=>∃ ρ F,Ab c ρ σ F H/\Rk c E F H (f ρ) fun xs=>∀ J F' H',Ext F H F' H'->Yld c.K J F' (fun _=>none) xs->Rr J H'
theorem PI.imp{X:Cx}{tg e:Expr}{t t':TI}(h:PI X tg e t)(i:∀ σ H Q,t' σ H Q->t σ H Q):PI X tg e t':=fun pins s σ H Q I q=>h pins s σ H Q I (i σ H Q q)
abbrev PIf(X:Cx)(c:Ct)(E:XK)(tg e:Expr)(f:Sg->R (List PyData)):Prop:=PI X tg e (tI c E f)
abbrev PI0(X:Cx)(c:Ct)(E:XK)(tg e:Expr)(f:Sg->R (List PyData)):Prop:=PI X tg e (tI0 c E f)
theorem aAO{X:Cx}{c:Ct}{E:XK}{tg e:Expr}{f:Sg->R (List PyData)}(h:PI0 X c E tg e f):PIf X c E tg e f:=PI.imp h fun σ H Q ⟨ρ,F,ab,k⟩=>
 ⟨ρ,F,ab,k.imp fun xs _ q J F' H' s y=>q J (fun _=>none) F' H' s (fun _ _ z=>nomatch z) y⟩
def iR{H:Hp}:aO (fun _=>none) H:=fun _ _ z=>nomatch z
noncomputable def dX:PyData->R (List PyData)
 | .list xs=>if xs.length<=16777216 then .ok xs else .bad
 | .tuple xs=>if xs.length<=16777216 then .ok xs else .bad
 | .str z=>if z.cps.toList.length<=16777216 then .ok (z.cps.toList.map fun u=>.str ⟨#[u]⟩) else .bad
 | _=>.bad
theorem aEF{K:Frag}{F B H:Hp}{a:Addr}{vs:List V}{xs:List PyData}(hz:xs.length<=16777216)(hs:∀ H1,aO F H1->aO B H1->SqL K H1 a vs)(hd:DatVs K F vs xs):Yld K (Itl K a) F B xs where
 len:=by rw[dQ];exact hz
 go:=fun i F1 H1 h1 h2 h3 hi=>by
  have q:=hs H1 (fun x o z=>h2 x o (h1 x o z)) h3
  exact ⟨vs,vs[i]'(by rw[hd.length];exact hi),q,by simp⟩
 yld:=fun i F1 H1 v H2 x h1 h2 h3 y e=>by
  obtain ⟨rfl,y⟩:=y
  have q:=y vs (hs _ (fun x o z=>h2 x o (h1 x o z)) h3)
  obtain ⟨d,e2,r⟩:=hd.get q
  rw[e] at e2
  cases e2
  exact ⟨F1,Ext.refl h2,r.same h1⟩
 stop:=fun F1 H1 h1 h2 h3=>⟨vs,hs H1 (fun x o z=>h2 x o (h1 x o z)) h3,by rw[hd.length];exact Nat.le_refl _⟩
theorem aG7{K:Frag}{F B:Hp}{a:Addr}{vs:List V}{xs:List PyData}(hz:xs.length<=16777216)(hs:SqT K F a vs)(hd:DatVs K F vs xs):Yld K (Itt K a) F B xs where
 len:=by rw[dQ];exact hz
 go:=fun i F1 H1 h1 h2 h3 hi=>by
  have q:=hs.same (H':=H1) (fun x o z=>h2 x o (h1 x o z))
  exact ⟨vs,vs[i]'(by rw[hd.length];exact hi),q,by simp⟩
 yld:=fun i F1 H1 v H2 x h1 h2 h3 y e=>by
  obtain ⟨rfl,y⟩:=y
  have q:=y vs (hs.same (fun x o z=>h2 x o (h1 x o z)))
  obtain ⟨d,e2,r⟩:=hd.get q
  rw[e] at e2
  cases e2
  exact ⟨F1,Ext.refl h2,r.same h1⟩
 stop:=fun F1 H1 h1 h2 h3=>⟨vs,hs.same (fun x o z=>h2 x o (h1 x o z)),by rw[hd.length];exact Nat.le_refl _⟩
theorem aG8{K:Frag}{F B:Hp}{z:Str}(hz:z.cps.toList.length<=16777216):Yld K (Its z) F B (z.cps.toList.map fun u=>.str ⟨#[u]⟩) where
 len:=by rw[dQ,List.length_map];exact hz
 go:=fun i F1 H1 h1 h2 h3 hi=>by
  rw[List.length_map,Array.length_toList] at hi
  exact hi
 yld:=fun i F1 H1 v H2 x h1 h2 h3 y e=>by
  obtain ⟨rfl,u,hu,rfl⟩:=y
  rw[List.getElem?_map,Array.getElem?_toList,hu] at e
  cases e
  exact ⟨F1,Ext.refl h2,.str _⟩
 stop:=fun F1 H1 h1 h2 h3=>by
  show (z.cps.toList.map _).length=z.cps.size
  rw[List.length_map,Array.length_toList]
section
variable{X:Cx}{c:Ct}{E:XK}{tg e a b:Expr}{pos:Pos}
theorem aEG{f:Sg->R PyData}(hK:X.K=c.K)(h:PR X c E e f):PIf X c E tg e (e1 dX f):=PI.imp (PI.or (aI4 h) (aI9 h)) fun σ H Q ⟨ρ,F,ab,k⟩=>by
 have k':=Rk.bind k
 cases hf:f ρ with
 | bad=>rw[hf] at k';exact k'.elim
 | ex x=>rw[hf] at k';exact .inl ⟨ρ,F,ab,by rw[hf];exact k'⟩
 | ok d=>
  rw[hf] at k'
  have k2:=Rk.ok k'
  unfold dX at k2
  split at k2
  ·rename_i xs
   split at k2
   ·rename_i hz
    refine .inl ⟨ρ,F,ab,?_⟩
    rw[hf]
    intro v F' H' s r
    obtain ⟨p,vs,rfl,h1,h2⟩:=aY.lst_of s.fh r
    refine ⟨p,rfl,.inl ⟨⟨vs,?_⟩,?_⟩⟩
    · rw [hK]; exact h1
    · rw [hK]; exact Rk.ok k2 _ H' F' H' s (cU _) (aEF (H := H') hz (fun H1 _ q => h1.same q) h2)
   ·exact k2.elim
  ·rename_i xs
   split at k2
   ·rename_i hz
    refine .inl ⟨ρ,F,ab,?_⟩
    rw[hf]
    intro v F' H' s r
    obtain ⟨p,vs,rfl,h1,_,h2⟩:=aY.tup_of s.fh r
    refine ⟨p,rfl,.inr ⟨⟨vs,?_⟩,?_⟩⟩
    · rw [hK]; exact h1.same s.fh
    · rw [hK]; exact Rk.ok k2 _ H' F' H' s (cU _) (aG7 hz h1 h2)
   ·exact k2.elim
  ·rename_i z
   split at k2
   ·rename_i hz
    refine .inr ⟨ρ,F,ab,?_⟩
    rw[hf]
    intro v F' H' s r
    obtain rfl:=aY.str_of r
    exact ⟨z,rfl,Rk.ok k2 _ H' F' H' s (cU _) (aG8 hz)⟩
   ·exact k2.elim
  ·exact k2.elim
noncomputable def kZ(lo:Int)(n:Nat):List PyData:=(List.range n).map fun i:Nat=>.int (lo+i)
def eZ(lo hi:Int):R (List PyData):=if -4611686018427387904<=lo/\lo < 4611686018427387904 /\ -4611686018427387904<=hi/\hi < 4611686018427387904/\hi - lo<=16777216 then .ok (kZ lo (hi - lo).toNat) else .bad
def fP(f:Sg->R PyData):Sg->R (List PyData):=fun ρ=>(f ρ).bind fun x=>match x with
 | .int j=>eZ 0 j
 | _=>.bad
def pQ(f g:Sg->R PyData):Sg->R (List PyData):=fun ρ=>(f ρ).bind fun x=>(g ρ).bind fun y=>match x,y with
 | .int i,.int j=>eZ i j
 | _,_=>.bad
theorem uG{K:Frag}{F B:Hp}{lo:Int}{n:Nat}(hz:n<=16777216):Yld K (Itr lo n) F B (kZ lo n) where
 len:=by unfold kZ;rw[dQ,List.length_map,List.length_range];exact hz
 go:=fun i F1 H1 h1 h2 h3 hi=>by unfold kZ at hi;rw[List.length_map,List.length_range] at hi;exact hi
 yld:=fun i F1 H1 v H2 x h1 h2 h3 y e=>by
  obtain ⟨rfl,rfl⟩:=y
  unfold kZ at e
  rw[List.getElem?_map] at e
  cases q:(List.range n)[i]? with
  | none=>rw[q] at e;cases e
  | some j=>
   rw[q] at e
   cases e
   obtain ⟨hl,hv⟩:=List.getElem?_eq_some_iff.mp q
   rw[List.getElem_range] at hv
   subst hv
   exact ⟨F1,Ext.refl h2,.int _⟩
 stop:=fun F1 H1 h1 h2 h3=>by show n<=_;unfold kZ;rw[List.length_map,List.length_range];exact Nat.le_refl _
theorem jP{f:Sg->R PyData}(h:PI X tg e (aFI (d0 (tV (aV c) c E f) gG))):PI0 X c E tg e (fP f):=PI.imp h fun σ H Q ⟨ρ,F,ab,k⟩=>by
 refine ⟨ρ,F,ab,(Rk.bind k).imp fun x _ q v F' H' s r=>?_⟩
 cases x with
 | int j=>
  have q':Rk c E F H (eZ 0 j) _:=q
  unfold eZ at q'
  split at q'
  ·rename_i hz
   obtain rfl:=aY.int_of r
   refine ⟨j,rfl,by omega,by omega,?_⟩
   have e0:(j - 0).toNat=j.toNat:=by rw[Int.sub_zero]
   rw[<-e0]
   exact Rk.ok q' _ F' H' s (uG (by omega))
  ·exact q'.elim
 | _=>exact q.elim
theorem aG9{f g:Sg->R PyData}(h:PI X tg e (aFJ (d0 (tV (aV c) c E f) (d0 (tV (aV c) c E g) gG)))):PI0 X c E tg e (pQ f g):=PI.imp h fun σ H Q ⟨ρ,F,ab,k⟩=>by
 refine ⟨ρ,F,ab,(Rk.bind k).imp fun x _ q v F1 H1 s1 r1=>⟨ρ,F1,ab.ext s1,((Rk.bind q).ext s1).imp fun y _ q w F' H' s r=>?_⟩⟩
 cases x with
 | int i=>
  cases y with
  | int j=>
   have q':Rk c E F H (eZ i j) _:=q
   unfold eZ at q'
   split at q'
   ·rename_i hz
    obtain rfl:=aY.int_of r1
    obtain rfl:=aY.int_of r
    exact ⟨i,j,rfl,⟨by omega,by omega,by omega,by omega⟩,Rk.ok q' _ F' H' (s1.trans s) (uG (by omega))⟩
   ·exact q'.elim
  | _=>exact q.elim
 | _=>cases y<;>exact q.elim
end
end Fl
namespace Fl
open PySem L2 PyProof.Rows
noncomputable def kA(js:List (Option Nat))(ρ:Sg):Sg:=js.map fun o=>o.bind fun j=>(ρ[j]?).join
theorem sX{α:Type}{js:List (Option Nat)}{ρ:List (Option α)}{i:Nat}{a:α}(h:(js.map fun o=>o.bind fun j=>(ρ[j]?).join)[i]? = some (some a)):∃ j,js[i]? = some (some j)/\ρ[j]? = some (some a):=by
 rw[List.getElem?_map] at h
 cases e:js[i]? with
 | none=>rw[e] at h;cases h
 | some o=>
  rw[e] at h
  have h':(o.bind fun j=>(ρ[j]?).join)=some a:=Option.some.inj h
  cases o with
  | none=>cases h'
  | some j=>
   have h2:(ρ[j]?).join=some a:=h'
   cases e2:ρ[j]? with
   | none=>rw[e2] at h2;cases h2
   | some o2=>rw[e2] at h2;have:o2=some a:=h2;subst this;exact ⟨j,rfl,e2⟩
theorem sY{α:Type}{js:List (Option Nat)}{ρ:List (Option α)}{i j:Nat}{a:α}(h:js[i]? = some (some j))(h2:ρ[j]? = some (some a)):(js.map fun o=>o.bind fun j=>(ρ[j]?).join)[i]? = some (some a):=by
 rw[List.getElem?_map,h]
 show some ((ρ[j]?).join)=_
 rw[h2];rfl
def sZ(js:List (Option Nat)):Prop:=∀ (i k j:Nat),js[i]? = some (some j)->js[k]? = some (some j)->i=k
theorem rN{js:List (Option Nat)}(h:js.Pairwise fun a b=>a=none\/a≠b):sZ js:=fun i k j h1 h2=>by
 obtain ⟨l1,e1⟩:=List.getElem?_eq_some_iff.mp h1
 obtain ⟨l2,e2⟩:=List.getElem?_eq_some_iff.mp h2
 rw[List.pairwise_iff_getElem] at h
 rcases Nat.lt_trichotomy i k with q|q|q
 ·rcases h i k l1 l2 q with z|z
  · rw [e1] at z; cases z
  · exact absurd (e1.trans e2.symm) z
 ·exact q
 ·rcases h k i l2 l1 q with z|z
  · rw [e2] at z; cases z
  · exact absurd (e2.trans e1.symm) z
theorem Ab.cap{c:Ct}{ρ:Sg}{σ σ0:L2.St}{F H:Hp}{js:List (Option Nat)}(b:Ab c ρ σ F H)(ho:sZ js)(k:dS (jH js σ) σ0):Ab c (kA js ρ) σ0 F H where
 len:=by rw[k.1];unfold kA jH;rw[List.length_map,List.length_map]
 fh:=b.fh
 slot:=fun i a h=>by
  obtain ⟨j,h1,h2⟩:=sX h
  obtain ⟨v,h3,h4⟩:=b.slot j a h2
  exact ⟨v,k.2 i v (sY h1 h3),h4⟩
 apart:=fun i i' a a' hne h h' o o'=>by
  obtain ⟨j,h1,h2⟩:=sX h
  obtain ⟨j',h1',h2'⟩:=sX h'
  have hj:j≠j':=fun z=>hne (ho i i' j h1 (by rw[h1',z]))
  obtain ⟨v,h3,_⟩:=b.slot j a h2
  obtain ⟨v',h3',_⟩:=b.slot j' a' h2'
  rw[k.2 i v (sY h1 h3),k.2 i' v' (sY h1' h3'),<-h3,<-h3']
  exact b.apart j j' a a' hj h2 h2' o o'
 f0:=b.f0
 h0:=b.h0
 n0:=b.n0
 t0:=b.t0
noncomputable def R.noEx{α:Type}:R α->R α
 | .ex _=>.bad
 | r=>r
@[simp] theorem R.noEx_ok{α:Type}(a:α):(R.ok a).noEx=.ok a:=id rfl
noncomputable def tD{α:Type}:Option α->R α
 | some a=>.ok a
 | none=>.bad
@[simp] theorem fX{α:Type}(a:α):tD (some a)=.ok a:=id rfl
noncomputable def compL(fs:PyData->Sg->Option Sg)(ft:Sg->R Bool)(fe:Sg->R PyData)(ρ0:Sg):List PyData->R (List PyData)
 | []=>.ok []
 | x::t=>(tD (fs x ρ0)).bind fun ρ1=>(ft ρ1).noEx.bind fun b=>if b=true then (fe ρ1).noEx.bind fun y=>(compL fs ft fe ρ0 t).bind fun ys=>.ok (y::ys) else compL fs ft fe ρ0 t
theorem nG{fs:PyData->Sg->Option Sg}{ft:Sg->R Bool}{fe:Sg->R PyData}{ρ0:Sg}{e:Er}:∀ {xs:List PyData},compL fs ft fe ρ0 xs≠.ex e
 | []=>fun h=>by cases h
 | x::t=>fun h=>by
  unfold compL at h
  cases h1:fs x ρ0 with
  | none=>rw[h1] at h;cases h
  | some ρ1=>
   rw[h1] at h
   have h:((ft ρ1).noEx.bind fun b=>if b=true then (fe ρ1).noEx.bind fun y=>(compL fs ft fe ρ0 t).bind fun ys=>.ok (y::ys) else compL fs ft fe ρ0 t)=.ex e:=h
   cases h2:ft ρ1 with
   | bad=>rw[h2] at h;cases h
   | ex _=>rw[h2] at h;cases h
   | ok b=>
    rw[h2] at h
    have h:(if b=true then (fe ρ1).noEx.bind fun y=>(compL fs ft fe ρ0 t).bind fun ys=>.ok (y::ys) else compL fs ft fe ρ0 t)=.ex e:=h
    cases b with
    | false=>exact nG (xs:=t) h
    | true=>
     have h:((fe ρ1).noEx.bind fun y=>(compL fs ft fe ρ0 t).bind fun ys=>.ok (y::ys))=.ex e:=h
     cases h3:fe ρ1 with
     | bad=>rw[h3] at h;cases h
     | ex _=>rw[h3] at h;cases h
     | ok y=>
      rw[h3] at h
      have h:((compL fs ft fe ρ0 t).bind fun ys=>.ok (y::ys))=.ex e:=h
      cases h4:compL fs ft fe ρ0 t with
      | bad=>rw[h4] at h;cases h
      | ex e'=>exact nG (xs:=t) (e:=e') h4
      | ok ys=>rw[h4] at h;cases h
theorem aAP{fs:PyData->Sg->Option Sg}{ft:Sg->R Bool}{fe:Sg->R PyData}{ρ0:Sg}{x:PyData}{t ys:List PyData}(h:compL fs ft fe ρ0 (x::t)=.ok ys) :
  ∃ ρ1 b,fs x ρ0=some ρ1/\ft ρ1=.ok b/\((b=true/\∃ y zs,fe ρ1=.ok y/\compL fs ft fe ρ0 t=.ok zs/\ys=y::zs)\/(b=false/\compL fs ft fe ρ0 t=.ok ys)):=by
 unfold compL at h
 cases h1:fs x ρ0 with
 | none=>rw[h1] at h;cases h
 | some ρ1=>
  rw[h1] at h
  have h:((ft ρ1).noEx.bind fun b=>if b=true then (fe ρ1).noEx.bind fun y=>(compL fs ft fe ρ0 t).bind fun ys=>.ok (y::ys) else compL fs ft fe ρ0 t)=.ok ys:=h
  cases h2:ft ρ1 with
  | bad=>rw[h2] at h;cases h
  | ex _=>rw[h2] at h;cases h
  | ok b=>
   rw[h2] at h
   have h:(if b=true then (fe ρ1).noEx.bind fun y=>(compL fs ft fe ρ0 t).bind fun ys=>.ok (y::ys) else compL fs ft fe ρ0 t)=.ok ys:=h
   refine ⟨ρ1,b,rfl,h2,?_⟩
   cases b with
   | false=>exact .inr ⟨rfl,h⟩
   | true=>
    refine .inl ⟨rfl,?_⟩
    have h:((fe ρ1).noEx.bind fun y=>(compL fs ft fe ρ0 t).bind fun ys=>.ok (y::ys))=.ok ys:=h
    cases h3:fe ρ1 with
    | bad=>rw[h3] at h;cases h
    | ex _=>rw[h3] at h;cases h
    | ok y=>
     rw[h3] at h
     have h:((compL fs ft fe ρ0 t).bind fun ys=>.ok (y::ys))=.ok ys:=h
     cases h4:compL fs ft fe ρ0 t with
     | bad=>rw[h4] at h;cases h
     | ex e'=>rw[h4] at h;cases h
     | ok zs=>rw[h4] at h;cases h;exact ⟨y,zs,rfl,rfl,rfl⟩
def i7(js:List (Option Nat))(fi:Sg->R (List PyData))(fs:PyData->Sg->Option Sg)(ft:Sg->R Bool)(fe:Sg->R PyData):Sg->R (List PyData):=fun ρ=>(fi ρ).bind fun xs=>compL fs ft fe (kA js ρ) xs
noncomputable def l6:Sg->R Bool:=fun _=>.ok true
section
variable{X:Cx}{c:Ct}{E:XK}{e a b:Expr}{pos:Pos}
theorem jI:L2.PIf X [] (tTf c E l6):=fun pins s σ H Q I ⟨ρ,F,ab,k⟩=>L2.jI pins s σ H Q I (Rk.ok k F H (Ext.refl ab.fh))
theorem wZ{js:List (Option Nat)}{is:List Nat}{σ σ0 σ1:L2.St}(k:dS (jH js σ) σ0)(hl:σ1.length=σ0.length)(h:∀ j:Nat,j∉is->σ1[j]? = σ0[j]?)(hi:∀ i∈is,js[i]? = some none):dS (jH js σ) σ1:=
 ⟨hl.trans k.1,fun i v e=>by
  by_cases q:i∈is
  ·unfold jH at e
   rw[List.getElem?_map,hi i q] at e
   cases e
  ·rw[h i q];exact k.2 i v e⟩
theorem uH{N:List Str}{js:List (Option Nat)}{scope:Scope}{tg elt:Expr}{ifs:List Expr}{fi:Sg->R (List PyData)}{fs:PyData->Sg->Option Sg}{ft:Sg->R Bool}{fe:Sg->R PyData}{is:List Nat}(ho:sZ js)(hi:∀ i∈is,js[i]? = some none)
  (hb:∀ (cl:List (Str×Addr)) (C:Addr) (s:Shared) (H0:Hp) (fp:List Addr),∃ g,PG (eQ X N scope cl C s H0 fp) tg g/\Tg c g fs is/\L2.PIf (eQ X N scope cl C s H0 fp) ifs (tTf c E0 ft)/\PD (eQ X N scope cl C s H0 fp) c E0 elt fe)
  {σ:L2.St} {H:Hp} {Q:VK} (h:tV (aAM c) c E (i7 js fi fs ft fe) σ H Q):pL X N scope js tg elt ifs (tI c E fi) σ H Q:=by
 obtain ⟨ρ,F,ab,k⟩:=h
 refine ⟨ρ,F,ab,(Rk.bind k).imp fun xs _ q J B F1 H1 s1 sb yl=>?_⟩
 cases hc:compL fs ft fe (kA js ρ) xs with
 | bad=>rw[hc] at q;exact q.elim
 | ex e=>exact absurd hc nG
 | ok ys=>
  rw[hc] at q
  refine yO (n:=xs.length) (fun i acc H'=>∃ F',Ext F1 H1 F' H'/\acc.length<=i/\∃ zs rest,DatVs c.K F' acc zs/\compL fs ft fe (kA js ρ) (xs.drop i)=.ok rest/\zs++rest=ys) yl.len ⟨F1,Ext.refl s1.fh,Nat.le_refl _,[],ys,.nil,hc,rfl⟩ ?_ ?_ ?_ ?_ ?_
  ·rintro i acc H' _ ⟨F',_,h,_⟩;exact h
  ·rintro i acc H' hlt ⟨F',e1,_⟩
   exact yl.go i F' H' e1.ff e1.fh (fun a o z=>e1.hh a o (sb a o z)) hlt
  ·rintro acc H' ⟨F',e1,_⟩
   exact yl.stop F' H' e1.ff e1.fh (fun a o z=>e1.hh a o (sb a o z))
  ·rintro i v acc Ha Hb hlt ⟨F',e1,hlen,zs,rest,hd,hr,hz⟩ hy
   obtain ⟨F2,e2,rx⟩:=yl.yld i F' Ha v Hb xs[i] e1.ff e1.fh (fun a o z=>e1.hh a o (sb a o z)) hy (List.getElem?_eq_getElem hlt)
   have hdr:xs.drop i=xs[i]::xs.drop (i+1):=List.drop_eq_getElem_cons hlt
   rw[hdr] at hr
   obtain ⟨ρ1,bb,hs,ht,hcase⟩:=aAP hr
   intro cl C s H0 fp
   obtain ⟨g,hg,tg',hif,he⟩:=hb cl C s H0 fp
   refine ⟨g,_,_,hg,hif,he,fun σ0 k0=>?_⟩
   have ab0:Ab c (kA js ρ) σ0 F2 Hb:=(ab.ext (s1.trans (e1.trans e2))).cap ho k0
   refine tg' v xs[i] _ ρ1 σ0 F2 Hb _ ab0 rx hs fun σ1 hl1 hk1 ab1=>⟨wZ k0 hl1 hk1 hi,ρ1,F2,ab1,?_⟩
   rw[ht]
   intro F3 H3 e3
   rcases hcase with ⟨rfl,y,ws,hy1,hy2,rfl⟩|⟨rfl,hy2⟩
   ·refine oN ⟨ρ1,F3,ab1.ext e3,?_⟩
    rw[hy1]
    intro w F4 H4 e4 rw'
    refine ⟨F4,e1.trans (e2.trans (e3.trans e4)),by rw[List.length_append,List.length_singleton];omega,zs++[y],ws,(hd.same (e2.trans (e3.trans e4)).ff).append (.cons rw' .nil),hy2,by rw[List.append_assoc];exact hz⟩
   ·exact oM ⟨F3,e1.trans (e2.trans e3),by omega,zs,rest,hd.same (e2.trans e3).ff,hy2,hz⟩
  ·rintro acc H' ⟨F',e1,_,zs,rest,hd,hr,hz⟩ p hp
   rw[List.drop_length] at hr
   cases hr
   rw[List.append_nil] at hz
   subst hz
   exact Rk.ok q (.ref p) F' _ (s1.trans (e1.trans (Ext.own e1.fh hp))) ⟨p,acc,rfl,cA (s1.trans e1).hh hp,aW,cA e1.fh hp,hd⟩
theorem tE{N:List Str}{js:List (Option Nat)}{scope:Scope}{tg elt:Expr}{ifs:List Expr}{fi:Sg->R (List PyData)}{fs:PyData->Sg->Option Sg}{ft:Sg->R Bool}{fe:Sg->R PyData}{is:List Nat}(h:PE X e (pL X N scope js tg elt ifs (tI c E fi)))(ho:js.Pairwise fun a b=>a=none\/a≠b)(hi:∀ i∈is,js[i]? = some none)
 (hb:∀ (cl:List (Str×Addr)) (C:Addr) (s:Shared) (H0:Hp) (fp:List Addr),∃ g,PG (eQ X N scope cl C s H0 fp) tg g/\Tg c g fs is/\L2.PIf (eQ X N scope cl C s H0 fp) ifs (tTf c E0 ft)/\PD (eQ X N scope cl C s H0 fp) c E0 elt fe) :
 PN X c E e (i7 js fi fs ft fe):=PE.imp h fun σ H Q q=>uH (rN ho) hi hb q
theorem yX{i:Nat}{st:Stmt}{N:List Str}{js:List (Option Nat)}{scope:Scope}{tg elt:Expr}{ifs:List Expr}{fi:Sg->R (List PyData)}{fs:PyData->Sg->Option Sg}{ft:Sg->R Bool}{fe:Sg->R PyData}{is:List Nat}(h:PS X st (l3 (pL X N scope js tg elt ifs (tI c E fi)) (jW i)))(ho:js.Pairwise fun a b=>a=none\/a≠b)(hi:∀ i∈is,js[i]? = some none)
 (hb:∀ (cl:List (Str×Addr)) (C:Addr) (s:Shared) (H0:Hp) (fp:List Addr),∃ g,PG (eQ X N scope cl C s H0 fp) tg g/\Tg c g fs is/\L2.PIf (eQ X N scope cl C s H0 fp) ifs (tTf c E0 ft)/\PD (eQ X N scope cl C s H0 fp) c E0 elt fe) :
 PSf X c E st (fH i (i7 js fi fs ft fe)):=jN (PS.imp h fun D σ H q=>uH (rN ho) hi hb q)
end
noncomputable def k6(fs:PyData->Sg->Option Sg)(fb:Sg->R Fw):List PyData->Sg->R Fw
 | [],ρ=>.ok (.nx ρ)
 | x::t,ρ=>(tD (fs x ρ)).bind fun ρ1=>(fb ρ1).bind fun w=>match w with
  | .nx ρ2=>k6 fs fb t ρ2
  | .ct ρ2=>k6 fs fb t ρ2
  | .bk ρ2=>.ok (.nx ρ2)
  | .rt a=>.ok (.rt a)
def nH(fi:Sg->R (List PyData))(fs:PyData->Sg->Option Sg)(fb:Sg->R Fw):Sg->R Fw:=fun ρ=>(fi ρ).bind fun xs=>k6 fs fb xs ρ
section
variable{X:Cx}{c:Ct}{E:XK}{e a b:Expr}{pos:Pos}{st:Stmt}
theorem eY{g:TG}{fi:Sg->R (List PyData)}{fs:PyData->Sg->Option Sg}{is:List Nat}{fb:Sg->R Fw}(hg:Tg c g fs is)(h:PS X st (aDF (tI0 c E fi) g (tSf c E fb))):PSf X c E st (nH fi fs fb):=PS.imp h fun D σ H zz0=>by
 obtain ⟨ρ,F,ab,k⟩:=zz0
 refine ⟨ρ,F,ab,(Rk.bind k).imp fun xs _ q J F1 H1 s1 yl=>?_⟩
 refine ⟨fun i m σ H=>m=xs.length - i/\i<=xs.length/\∃ ρ' F',aO F1 F'/\Ab c ρ' σ F' H/\Rk c E F' H (k6 fs fb (xs.drop i) ρ') (hX c F D),⟨xs.length,by simp,Nat.zero_le _,ρ,F1,cU _,ab.ext s1,Rk.ext s1 q⟩,?_⟩
 rintro i m σ2 H2 ⟨rfl,hi,ρ2,F2,s2,ab2,k2⟩
 by_cases hlt:i < xs.length
 ·refine .inr ⟨yl.go i F2 H2 s2 ab2.fh iR hlt,fun σ' H'=>∃ ρ' F',aO F1 F'/\Ab c ρ' σ' F' H'/\Rk c E F' H' (k6 fs fb (xs.drop (i+1)) ρ') (hX c F D),fun σ' H' w=>⟨xs.length - (i+1),by omega,rfl,hlt,w⟩,fun v H3 y=>?_⟩
  obtain ⟨F3,e3,rv⟩:=yl.yld i F2 H2 v H3 xs[i] s2 ab2.fh iR y (List.getElem?_eq_getElem hlt)
  have hdr:xs.drop i=xs[i]::xs.drop (i+1):=List.drop_eq_getElem_cons hlt
  rw[hdr] at k2
  unfold k6 at k2
  cases h1:fs xs[i] ρ2 with
  | none=>rw[h1] at k2;exact k2.elim
  | some ρ3=>
   rw[h1] at k2
   refine hg v xs[i] ρ2 ρ3 σ2 F3 H3 _ (ab2.ext e3) rv h1 fun σ3 _ _ ab3=>⟨ρ3,F3,ab3,?_⟩
   have k3:Rk c E F2 H2 (fb ρ3) _:=Rk.bind k2
   cases h2:fb ρ3 with
   | bad=>rw[h2] at k3;exact k3.elim
   | ex e=>rw[h2] at k3;exact k3
   | ok w=>
    rw[h2] at k3
    have k4:=Rk.ok k3
    have sF:aO F F3:=fun a o z=>e3.ff a o (s2 a o (s1.ff a o z))
    cases w with
    | nx ρ4=>exact fun σ' F' H' s' ab'=>⟨ρ4,F',fun a o z=>s' a o (e3.ff a o (s2 a o z)),ab',k4⟩
    | ct ρ4=>exact fun σ' F' H' s' ab'=>⟨ρ4,F',fun a o z=>s' a o (e3.ff a o (s2 a o z)),ab',k4⟩
    | bk ρ4=>exact fun σ' F' H' s' ab'=>Rk.ok k4 σ' F' H' (fun a o z=>s' a o (sF a o z)) ab'
    | rt a=>exact fun v F' H' z r=>Rk.ok k4 v F' H' z r
 ·have e:i=xs.length:=by omega
  subst e
  rw[List.drop_length] at k2
  exact .inl ⟨yl.stop F2 H2 s2 ab2.fh iR,Rk.ok k2 σ2 F2 H2 (fun a o z=>s2 a o (s1.ff a o z)) ab2⟩
end
noncomputable def cQ(t:Sg->R Bool)(b:Sg->R Fw):Nat->Sg->R Fw
 | 0,_=>.bad
 | n+1,ρ=>(t ρ).bind fun k=>if k=true then (b ρ).bind fun w=>match w with
   | .nx ρ'=>cQ t b n ρ'
   | .ct ρ'=>cQ t b n ρ'
   | .bk ρ'=>.ok (.nx ρ')
   | .rt a=>.ok (.rt a)
  else .ok (.nx ρ)
open Classical in
noncomputable def cB(t:Sg->R Bool)(b:Sg->R Fw):Sg->R Fw:=fun ρ=>if h:∃ n,cQ t b n ρ≠.bad then cQ t b h.choose ρ else .bad
theorem R.bind_mono{α β:Type}{r:R α}{f g:α->R β}(h:r.bind f≠.bad)(hfg:∀ a,f a≠.bad->g a=f a):r.bind g=r.bind f:=by
 cases r with
 | bad=>rfl
 | ex e=>rfl
 | ok a=>exact hfg a h
theorem jZ{t:Sg->R Bool}{b:Sg->R Fw}:∀ {n m:Nat} {ρ:Sg},n<=m->cQ t b n ρ≠.bad->cQ t b m ρ=cQ t b n ρ
 | 0,_,_,_,h=>absurd rfl h
 | n+1,0,_,hm,_=>absurd hm (by omega)
 | n+1,m+1,ρ,hm,h=>by
  unfold cQ at h ⊢
  refine R.bind_mono h fun k hk=>?_
  cases k with
  | false=>rfl
  | true=>
   refine R.bind_mono (r:=b ρ) hk fun w hw=>?_
   cases w with
   | nx ρ'=>exact jZ (by omega) hw
   | ct ρ'=>exact jZ (by omega) hw
   | bk ρ'=>rfl
   | rt a=>rfl
theorem oU{t:Sg->R Bool}{b:Sg->R Fw}{ρ:Sg}{n:Nat}(h:cQ t b n ρ≠.bad):cB t b ρ=cQ t b n ρ:=by
 have hx:∃ n,cQ t b n ρ≠.bad:=⟨n,h⟩
 unfold cB
 rw[dif_pos hx]
 have hc:=hx.choose_spec
 rcases Nat.le_total n hx.choose with q|q
 · exact jZ q h
 · exact (jZ q hc).symm
theorem oV (t : Sg -> R Bool) (b : Sg -> R Fw) (ρ : Sg) : cB t b ρ = (t ρ).bind fun k => if k = true then (b ρ).bind fun w => match w with
      | .nx ρ' => cB t b ρ'
      | .ct ρ' => cB t b ρ'
      | .bk ρ' => .ok (.nx ρ')
      | .rt a => .ok (.rt a)
    else .ok (.nx ρ) := by
  have key : ∀ n, (∀ k, t ρ = .ok k -> k = true -> ∀ w, b ρ = .ok w -> ∀ ρ', (w = .nx ρ' \/ w = .ct ρ') -> cB t b ρ' = cQ t b n ρ') -> cQ t b (n + 1) ρ = (t ρ).bind fun k => if k = true then (b ρ).bind fun w => match w with
      | .nx ρ' => cB t b ρ'
      | .ct ρ' => cB t b ρ'
      | .bk ρ' => .ok (.nx ρ')
      | .rt a => .ok (.rt a)
    else .ok (.nx ρ) := by
    intro n h
    unfold cQ
    cases ht : t ρ with
    | bad => rfl
    | ex e => rfl
    | ok k =>
      cases k with
      | false => rfl
      | true =>
        show ((b ρ).bind _) = ((b ρ).bind _)
        cases hb : b ρ with
        | bad => rfl
        | ex e => rfl
        | ok w =>
          cases w with
          | nx ρ' => exact (h true ht rfl _ hb ρ' (.inl rfl)).symm
          | ct ρ' => exact (h true ht rfl _ hb ρ' (.inr rfl)).symm
          | bk ρ' => rfl
          | rt a => rfl
  by_cases hx : ∃ n, cQ t b n ρ ≠ .bad
  · obtain ⟨n, hn⟩ := hx
    cases n with
    | zero => exact absurd rfl hn
    | succ n =>
      rw [oU hn]
      refine key n fun k ht hk w hb ρ' hw => ?_
      subst hk
      refine oU fun z => hn ?_
      unfold cQ
      rw [ht]
      show ((b ρ).bind _) = _
      rw [hb]
      rcases hw with rfl | rfl
      · exact z
      · exact z
  · have h0 : cB t b ρ = .bad := by unfold cB; rw [dif_neg hx]
    rw [h0]
    have hall : ∀ n, cQ t b n ρ = .bad := fun n => Classical.byContradiction fun z => hx ⟨n, z⟩
    cases ht : t ρ with
    | bad => rfl
    | ex e => have := hall 1; unfold cQ at this; rw [ht] at this; cases this
    | ok k =>
      cases k with
      | false => have := hall 1; unfold cQ at this; rw [ht] at this; cases this
      | true =>
        show R.bad = ((b ρ).bind _)
        cases hb : b ρ with
        | bad => rfl
        | ex e => have := hall 1; unfold cQ at this; rw [ht] at this; change ((b ρ).bind _) = _ at this; rw [hb] at this; cases this
        | ok w =>
          have nxt : ∀ ρ', (w = .nx ρ' \/ w = .ct ρ') -> cB t b ρ' = .bad := fun ρ' hw => by
            unfold cB
            rw [dif_neg]
            rintro ⟨n, hn⟩
            refine hn ?_
            have := hall (n + 1)
            unfold cQ at this
            rw [ht] at this
            change ((b ρ).bind _) = _ at this
            rw [hb] at this
            rcases hw with rfl | rfl <;> exact this
          cases w with
          | nx ρ' => exact (nxt ρ' (.inl rfl)).symm
          | ct ρ' => exact (nxt ρ' (.inr rfl)).symm
          | bk ρ' => have := hall 1; unfold cQ at this; rw [ht] at this; change ((b ρ).bind _) = _ at this; rw [hb] at this; cases this
          | rt a => have := hall 1; unfold cQ at this; rw [ht] at this; change ((b ρ).bind _) = _ at this; rw [hb] at this; cases this
section
variable{X:Cx}{c:Ct}{E:XK}{st:Stmt}
theorem kS{t:Sg->R Bool}{fb:Sg->R Fw}(h:PS X st (aBB (tTf c E t) (tSf c E fb))):PSf X c E st (cB t fb):=PS.imp h fun D σ H zz0=>by
 obtain ⟨ρ,F,ab,k⟩:=zz0
 have hx:∃ n,cQ t fb n ρ≠.bad:=Classical.byContradiction fun z=>by
  have:cB t fb ρ=.bad:=by unfold cB;rw[dif_neg z]
  rw[this] at k
  exact k
 obtain ⟨n,hn⟩:=hx
 rw[oU hn] at k
 refine ⟨fun m σ H=>∃ ρ' F',aO F F'/\Ab c ρ' σ F' H/\Rk c E F' H (cQ t fb m ρ') (hX c F D),⟨n,ρ,F,cU F,ab,k⟩,?_⟩
 rintro m σ1 H1 ⟨ρ1,F1,s1,ab1,k1⟩
 cases m with
 | zero=>exact k1.elim
 | succ m=>
  unfold cQ at k1
  refine ⟨ρ1,F1,ab1,(Rk.bind k1).imp fun b _ q F2 H2 e2=>?_⟩
  have ab2:=ab1.ext e2
  cases b with
  | false=>exact oM (Rk.ok q σ1 F2 H2 (fun a o z=>e2.ff a o (s1 a o z)) ab2)
  | true=>
   refine oN ⟨fun σ' H'=>∃ ρ' F',aO F F'/\Ab c ρ' σ' F' H'/\Rk c E F' H' (cQ t fb m ρ') (hX c F D),fun σ' H' w=>⟨m,by omega,w⟩,ρ1,F2,ab2,?_⟩
   have q':Rk c E F1 H1 (fb ρ1) _:=Rk.bind (r:=fb ρ1) q
   cases h2:fb ρ1 with
   | bad=>rw[h2] at q';exact q'.elim
   | ex e=>rw[h2] at q';exact q'
   | ok w=>
    rw[h2] at q'
    have k4:=Rk.ok q'
    have sF:aO F F2:=fun a o z=>e2.ff a o (s1 a o z)
    cases w with
    | nx ρ4=>exact fun σ' F' H' s' ab'=>⟨ρ4,F',fun a o z=>s' a o (sF a o z),ab',k4⟩
    | ct ρ4=>exact fun σ' F' H' s' ab'=>⟨ρ4,F',fun a o z=>s' a o (sF a o z),ab',k4⟩
    | bk ρ4=>exact fun σ' F' H' s' ab'=>Rk.ok k4 σ' F' H' (fun a o z=>s' a o (sF a o z)) ab'
    | rt a=>exact fun v F' H' z r=>Rk.ok k4 v F' H' z r
end
end Fl
namespace Fl
open PySem L2 PyProof.Rows
def spG(K:Frag)(mg:Str->Option Value)(T F1:Hp)(n:Nat)(G:List PyData->R PyData):Sp:=fun vs H Q E=>∃ F ds,aO F1 F/\aO T F/\aO F H/\DatVs K F vs ds/\ds.length=n/\match G ds with
 | .bad=>False
 | .ok d=>∀ v F' H',Ext F H F' H'->DatV K F' v d->Q v H'
 | .ex e=>∀ a C F' H',Ext F H F' H'->nC K mg F' e a C->E (.ref C) (some a) H'
def Beh(P:Program)(w:World)(K:Frag)(mg:Str->Option Value)(base:Heap)(T:Hp)(f:Addr)(F1:Hp)(k n:Nat)(G:List PyData->R PyData):Prop:=
 ∃ fd ps,ps.length=n/\cS K fd ps []/\FnOk P w K mg base (CXe P w) k f fd ps (spG K mg T F1 n G)/\(PySem.W.keepIn K (.ref f)=true\/∃ oc od fd' sl,F1 f=some (FnO f ⟨oc,od,.func fd',sl⟩))
def gOf(P:Program)(w:World)(K:Frag)(mg:Str->Option Value)(base:Heap)(T:Hp):Gb:=⟨Beh P w K mg base T,T,w⟩
def spF(g:Gb)(K:Frag)(mg:Str->Option Value)(n:Nat)(G:List A->R A):Sp:=fun vs H Q E=>∃ F as,aO g.T F/\aO F H/\AFs g K mg F as vs/\as.length=n/\match G as with
 | .bad=>False
 | .ok a=>∀ v F' H',Ext F H F' H'->AF g K mg F' a v->Q v H'
 | .ex e=>∀ a C F' H',Ext F H F' H'->nC K mg F' e a C->E (.ref C) (some a) H'
def bB(P:Program)(w:World)(K:Frag)(mg:Str->Option Value)(base:Heap)(T:Hp)(k:Nat)(x:Str)(ps:List Str)(G:List A->R A):Prop:=Calls P w K mg base (CXe P w) k x ps (spF (gOf P w K mg base T) K mg ps.length G)
def bF(n:Nat)(G:List A->R A)(f:Sg->R (List A)):Sg->R A:=fun ρ=>(f ρ).bind fun as=>if as.length=n then G as else .bad
theorem cM{X:Cx}{c:Ct}{E:XK}{e:Expr}{n:Nat}{G:List A->R A}{g:Gb}{K:Frag}{mg:Str->Option Value}{f:Sg->R (List A)}(hG:g=c.g)(hK:K=c.K)(hM:mg=c.mg)(h:PE X e (zY (spF g K mg n G) [] E (tAv c E f))):PV X c E e (bF n G f):=PE.imp h fun σ H Q zz0=>by
 obtain ⟨ρ,F,ab,k⟩:=zz0
 subst hG hK hM
 refine ⟨ρ,F,ab,(Rk.bind k).imp fun as _ q vs F1 H1 s1 r1=>?_⟩
 by_cases hn:as.length=n
 ·rw[if_pos hn] at q
  refine ⟨F1,as,fun a o z=>s1.ff a o (ab.f0 a o (ab.t0 a o z)),s1.fh,by rw[List.append_nil];exact r1,hn,?_⟩
  cases hg:G as with
  | bad=>rw[hg] at q;exact q
  | ok a=>rw[hg] at q;exact fun v F' H' s r=>Rk.ok q v F' H' (s1.trans s) r
  | ex e=>rw[hg] at q;exact fun a C F' H' s r=>q a C F' H' ((ab.all.trans s1).trans s) r
 ·rw[if_neg hn] at q;exact q.elim
def fnF(n:Nat)(fb:Sg->R Fw):List A->R A:=fun as=>(fb (as.map some++List.replicate (n - as.length) none)).bind fun w=>match w with
 | .rt (.l _)=>.bad
 | .rt a=>.ok a
 | .nx _=>.ok (.d .none)
 | _=>.bad
theorem AFs.get{g:Gb}{K:Frag}{mg:Str->Option Value}{F:Hp}:∀ {as:List A} {vs:List V} {i:Nat} {a:A},AFs g K mg F as vs->as[i]? = some a->∃ v,vs[i]? = some v/\AF g K mg F a v
 | [],[],_,_,_,h=>by simp at h
 | a::as,v::vs,0,_,h,e=>by simp at e;subst e;exact ⟨v,rfl,h.1⟩
 | a::as,v::vs,i+1,_,h,e=>by
  obtain ⟨w,h1,h2⟩:=AFs.get (i:=i) h.2 (by simpa using e)
  exact ⟨w,by simpa using h1,h2⟩
theorem oW{α:Type}{as:List α}{n i:Nat}{a:α}(h:(as.map some++List.replicate n none)[i]? = some (some a)):as[i]? = some a:=by
 by_cases hi:i < as.length
 ·rw[List.getElem?_append_left (by rw[List.length_map];exact hi),List.getElem?_map] at h
  cases e:as[i]? with
  | none=>rw[e] at h;cases h
  | some b=>rw[e] at h;cases h;rfl
 ·rw[List.getElem?_append_right (by rw[List.length_map];omega),List.getElem?_replicate] at h
  split at h
  · cases h
  · cases h
theorem aEH{g:Gb}{cells:List (Str×Addr)}{cls:Str->Option ClSt}{K:Frag}{mg:Str->Option Value}{w:World}{F H:Hp}{as:List A}{vs:List V}{n:Nat}(s0:aO g.T F)(s:aO F H)(h:AFs g K mg F as vs):Ab ⟨K,mg,w,F,H,g,cells,cls⟩ (as.map some++List.replicate (n - as.length) none) (vs.map some++List.replicate (n - vs.length) none) F H where
 len:=by rw[List.length_append,List.length_append,List.length_map,List.length_map,List.length_replicate,List.length_replicate,h.len]
 fh:=s
 slot:=fun i a e=>by
  obtain ⟨v,h1,h2⟩:=h.get (oW e)
  refine ⟨v,?_,AO.of h2⟩
  have hi:i < vs.length:=(List.getElem?_eq_some_iff.mp h1).1
  rw[List.getElem?_append_left (by rw[List.length_map];exact hi),List.getElem?_map,h1];rfl
 apart:=fun i j a b _ e1 _ o _=>by
  obtain ⟨v,h1,h2⟩:=h.get (oW e1)
  rw[AF.notOwn h2] at o
  cases o
 f0:=cU F
 h0:=cU H
 n0:=fun a e n=>absurd e n
 t0:=s0
theorem tF{g:Gb}{cells:List (Str×Addr)}{cls:Str->Option ClSt}{K:Frag}{mg:Str->Option Value}{w:World}{n:Nat}{fb:Sg->R Fw}{vs:List V}{as:List A}{F H:Hp}{Q:VK}{E:XK}(h0:aO g.T F)(h1:aO F H)(h2:AFs g K mg F as vs)(h4:match fnF n fb as with
 | .bad=>False
 | .ok a=>∀ v F' H',Ext F H F' H'->AF g K mg F' a v->Q v H'
 | .ex e=>∀ a C F' H',Ext F H F' H'->nC K mg F' e a C->E (.ref C) (some a) H'):tSf ⟨K,mg,w,F,H,g,cells,cls⟩ E fb {nx:=fun _ H'=>Q .non H',rt:=Q} (vs.map some++List.replicate (n - vs.length) none) H:=by
 refine ⟨_,F,aEH h0 h1 h2,?_⟩
 unfold fnF at h4
 cases e:fb (as.map some++List.replicate (n - as.length) none) with
 | bad=>rw[e] at h4;exact h4
 | ex x=>rw[e] at h4;exact h4
 | ok w=>
  rw[e] at h4
  cases w with
  | nx ρ'=>exact fun σ' F' H' s ab=>h4 .non F' H' ab.all .non
  | rt a=>
   cases a with
   | l xs=>exact h4.elim
   | _=>exact h4
  | bk ρ'=>exact h4.elim
  | ct ρ'=>exact h4.elim
section
variable{P:Program}{w:World}{K:Frag}{mg:Str->Option Value}{base:Heap}{T:Hp}{x:Str}{st:Stmt}{N ps:List Str}{k:Nat}
theorem dG{fb:Sg->R Fw}(D:DefAt K mg x st ps)(S:FnScope N ps (aL st))
  (hbody:∀ (f:Addr) (cdv:Value) (A:Around) (outer:List Env) (s:Shared) (H F:Hp) (E:XK),Room k (A.deeper (envOfC x (aL st) s.heap.objs.size f cdv))->
   kX ((iH (CXe P w) P w K mg base N x (aL st) f cdv A outer s H E).fly E) ⟨K,mg,w,F,H,gOf P w K mg base T,(envOfC x (aL st) s.heap.objs.size f cdv).cells,fun _=>none⟩ E (b5 st) fb):bB P w K mg base T (k+1) x ps (fnF N.length fb):=by
 refine D.okX S (fun vs H Q E h=>?_) (fun f cdv A outer s H vs Q E hr h=>?_)
 ·obtain ⟨F,as,_,_,h2,h3,_⟩:=h
  rw[h2.len,h3]
 ·obtain ⟨F,as,h0,h1,h2,h3,h4⟩:=h
  exact ⟨_,hbody f cdv A outer s H F E hr,tF h0 h1 h2 h4⟩
theorem bB.imp{G G':List A->R A}(C:bB P w K mg base T k x ps G)(h:∀ as,G' as≠.bad->G as=G' as):bB P w K mg base T k x ps G':=Calls.imp C fun vs H Q E=>by
 rintro ⟨F,as,h0,h1,h2,h3,h4⟩
 refine ⟨F,as,h0,h1,h2,h3,?_⟩
 cases e:G' as with
 | bad=>rw[e] at h4;exact h4.elim
 | ok a=>rw[h as (by rw[e];exact fun z=>nomatch z),e];rw[e] at h4;exact h4
 | ex x=>rw[h as (by rw[e];exact fun z=>nomatch z),e];rw[e] at h4;exact h4
end
def rO(cn:Str)(fs:List Str)(f:Sg->R (List PyData)):Sg->R Fw:=fun ρ=>(f ρ).bind fun xs=>if xs.length=fs.length then .ex ⟨cn,fs.zip xs⟩ else .bad
theorem mM{α β:Type}:∀ {xs:List α} {ys:List β},ys.length=xs.length->(xs.zip ys).map (·.1)=xs
 | [],_,_=>by simp
 | x::xs,[],h=>by simp at h
 | x::xs,y::ys,h=>by simp at h;simp[mM h]
theorem mN{α β:Type}:∀ {xs:List α} {ys:List β},ys.length=xs.length->(xs.zip ys).map (·.2)=ys
 | [],[],_=>by simp
 | [],_::_,h=>by simp at h
 | x::xs,[],h=>by simp at h
 | x::xs,y::ys,h=>by simp at h;simp[mN h]
theorem qN{X:Cx}{c:Ct}{E:XK}{st:Stmt}{cn:Str}{C:Addr}{fs:List Str}{f:Sg->R (List PyData)}(hm:c.mg cn=some (.ref C))(hl:fs.length<=1000)(h:PS X st (wL C (spI C fs) E (tAd c E f))):PSf X c E st (rO cn fs f):=PS.imp h fun D σ H zz0=>by
 obtain ⟨ρ,F,ab,k⟩:=zz0
 refine ⟨ρ,F,ab,(Rk.bind k).imp fun xs _ q vs F1 H1 s1 r1=>?_⟩
 by_cases hn:xs.length=fs.length
 ·rw[if_pos hn] at q
  have hv:vs.length=fs.length:=by rw[r1.length,hn]
  refine aAD hv (by rw[hv];exact hl) fun e d he hd hne=>?_
  have s2:Ext F1 H1 (upd F1 e (ExO e C (some d))) (upd H1 e (ExO e C (some d))):=Ext.new s1.fh he
  have s3:Ext _ _ (upd (upd F1 e (ExO e C (some d))) d (.xd (fs.zip vs))) (upd (upd H1 e (ExO e C (some d))) d (.xd (fs.zip vs))):=Ext.new s2.fh (by rw[aK hne];exact hd)
  refine q e C _ _ ((ab.all.trans s1).trans (s2.trans s3)) ⟨hm,some d,?_,.inr ⟨d,fs.zip vs,rfl,aW,?_,?_⟩⟩
  ·rw[aK (Ne.symm hne),aW]
  ·show _=(fs.zip xs).map (·.1)
   rw[mM hv,mM hn]
  ·show DatVs _ _ _ ((fs.zip xs).map (·.2))
   rw[mN hv,mN hn]
   exact r1.same (s2.trans s3).ff
 ·rw[if_neg hn] at q;exact q.elim
end Fl
namespace Fl
open PySem L2 PyProof.Rows
def tPf(c:Ct)(E:XK)(f:Sg->R (Option Int)):TO:=fun σ H Q=>∃ ρ F,Ab c ρ σ F H/\Rk c E F H (f ρ) fun o=>∀ F' H',Ext F H F' H'->Q o H'
noncomputable def oNo:Sg->R (Option Int):=fun _=>.ok none
def oSo(f:Sg->R PyData):Sg->R (Option Int):=fun ρ=>(f ρ).bind fun x=>match x with
 | .int i=>.ok (some i)
 | _=>.bad
noncomputable def k8{α:Type}(xs:List α)(lo hi:Option Int):List α:=(xs.drop (HT.sIx xs.length 0 lo)).take (HT.sIx xs.length xs.length hi - HT.sIx xs.length 0 lo)
noncomputable def dSl:PyData->Option Int->Option Int->R PyData
 | .list xs,lo,hi=>.ok (.list (k8 xs lo hi))
 | .tuple xs,lo,hi=>if ¬ (HT.sIx xs.length 0 lo=0/\HT.sIx xs.length xs.length hi=xs.length) then .ok (.tuple (k8 xs lo hi)) else .bad
 | .str z,lo,hi=>if z.length<=16777216 then .ok (.str (Txt.slice z lo hi)) else .bad
 | _,_,_=>.bad
def eSl{α:Type}(g:PyData->Option Int->Option Int->R α)(f:Sg->R PyData)(lo hi:Sg->R (Option Int)):Sg->R α:=fun ρ=>(f ρ).bind fun x=>(lo ρ).bind fun l=>(hi ρ).bind fun h=>g x l h
theorem w4{K:Frag}{F:Hp}{vs:List V}{xs:List PyData}(h:DatVs K F vs xs)(lo hi:Option Int):DatVs K F (oK vs lo hi) (k8 xs lo hi):=by
 unfold oK k8
 rw[h.length]
 exact (h.drop _).take _
theorem PO.imp{X:Cx}{e:Option Expr}{t t':TO}(h:PO X e t)(i:∀ σ H Q,t' σ H Q->t σ H Q):PO X e t':=fun pins s σ H Q I q=>h pins s σ H Q I (i σ H Q q)
section
variable{X:Cx}{c:Ct}{E:XK}{e a b:Expr}{pos p2:Pos}{lo hi:Option Expr}
theorem vQ:PO X none (tPf c E oNo):=PO.imp aGL fun σ H Q ⟨ρ,F,ab,k⟩=>Rk.ok k F H (Ext.refl ab.fh)
theorem vR{f:Sg->R PyData}(h:PR X c E e f):PO X (some e) (tPf c E (oSo f)):=PO.imp (aGM h) fun σ H Q ⟨ρ,F,ab,k⟩=>⟨ρ,F,ab,(Rk.bind k).imp fun x _ q v F' H' s r=>by
 cases x with
 | int i=>exact ⟨i,aY.int_of r,Rk.ok q F' H' s⟩
 | _=>exact q.elim⟩
def aJI(c:Ct){α:Type}(Rb:VR α)(g:PyData->Option Int->Option Int->R α):V->Option Int->Option Int->Hp->VK->Prop:=fun v lo hi H Q=>∃ F x d,aO F H/\aY c.K F H v x/\g x lo hi=.ok d/\∀ w F' H',Ext F H F' H'->Rb d w H F' H'->Q w H'
theorem aLE(hK:X.K=c.K):SlR X (aJI c (bT c) dSl):=by
 intro pins s σ H v x vl vu lo hi sl Q I rx hs pl pu h
 obtain ⟨F,d,w,sf,ra,eg,q⟩:=h
 unfold dSl at eg
 split at eg
 ·cases eg
  obtain ⟨p,vs,rfl,h1,h2⟩:=aY.lst_of sf ra
  rw[<-hK] at h1
  exact aGO pins s σ H _ x vl vu lo hi sl Q I rx hs pl pu ⟨p,vs,rfl,h1,fun l hl=>q _ _ _ (Ext.new sf hl) (.lst (SqL.of aW) ((w4 h2 lo hi).same (aO.upd (cA sf hl))))⟩
 ·rename_i xs _ _
  split at eg
  ·rename_i hw
   cases eg
   obtain ⟨p,vs,rfl,_,h1,h2⟩:=aY.tup_of sf ra
   rw[<-hK] at h1
   exact aIW pins s σ H _ x vl vu lo hi sl Q I rx hs pl pu ⟨p,vs,rfl,h1,by rw[h2.length];exact hw,fun l hl=>q _ _ _ (Ext.new sf hl) (.tup (SqT.of aW) ((w4 h2 lo hi).same (aO.upd (cA sf hl))))⟩
  ·cases eg
 ·split at eg
  ·rename_i hz
   cases eg
   obtain rfl:=aY.str_of ra
   exact aI5 pins s σ H _ x vl vu lo hi sl Q I rx hs pl pu ⟨_,rfl,by rw[dQ];exact hz,q _ F H (Ext.refl sf) (.str _)⟩
  ·cases eg
 ·cases eg
theorem aHA{α:Type}{Rb:VR α}{g:PyData->Option Int->Option Int->R α}(hp:∀ x l h e,g x l h≠.ex e)(kb:aAN Rb){f:Sg->R PyData}{fl fh:Sg->R (Option Int)}{σ:L2.St}{H:Hp}{Q:VK}(h:tV Rb c E (eSl g f fl fh) σ H Q) :
  tSl (aJI c Rb g) (tV (aV c) c E f) (tPf c E fl) (tPf c E fh) σ H Q:=by
 obtain ⟨ρ,F,ab,k⟩:=h
 refine ⟨ρ,F,ab,(Rk.bind k).imp fun x _ q v F1 H1 s1 r1=>⟨ρ,F1,ab.ext s1,((Rk.bind q).ext s1).imp fun l _ q F2 H2 s2=>⟨ρ,F2,ab.ext (s1.trans s2),((Rk.bind q).ext (s1.trans s2)).imp fun hh _ q F3 H3 s3=>?_⟩⟩⟩
 cases eg:g x l hh with
 | bad=>rw[eg] at q;exact q.elim
 | ex e=>exact absurd eg (hp x l hh e)
 | ok d=>
  rw[eg] at q
  have s13:=(s1.trans s2).trans s3
  exact ⟨F3,x,d,s3.fh,aY.ext (s2.trans s3) r1,eg,fun w F' H' s r=>Rk.ok q w F' H' (s13.trans s) (kb _ _ _ _ _ _ s13.hh r)⟩
theorem aEI:∀ x l h e,dSl x l h≠.ex e:=by intro x l h e q;unfold dSl at q;split at q<;>(try split at q)<;>cases q
theorem nI{f:Sg->R PyData}{fl fh:Sg->R (Option Int)}(hK:X.K=c.K)(he:PR X c E e f)(hl:PO X lo (tPf c E fl))(hh:PO X hi (tPf c E fh)):PD X c E (.Subscript e (.Slice lo hi none p2) pos) (eSl dSl f fl fh):=
 PE.imp (aDO (aLE hK) he hl hh) fun σ H Q h=>aHA aEI (kG c) h
noncomputable def tyN:PyData->String
 | .none=>"NoneType"
 | .bool _=>"bool"
 | .int _=>"int"
 | .str _=>"str"
 | .list _=>"list"
 | .tuple _=>"tuple"
 | .dict _=>"dict"
noncomputable def iJ(t T:String):Bool:=t == T || (T == "int" && t == "bool")
noncomputable def iK(T:String)(x:PyData):R PyData:=match x with
 | .dict _=>.bad
 | x=>.ok (.bool (iJ (tyN x) T))
structure Kit(K:Frag)(T:String):Prop where
 non:PySem.W.kitOne K (.type "NoneType") (.type T)=some (iJ "NoneType" T)
 bl:PySem.W.kitOne K (.type "bool") (.type T)=some (iJ "bool" T)
 int:PySem.W.kitOne K (.type "int") (.type T)=some (iJ "int" T)
 str:PySem.W.kitOne K (.type "str") (.type T)=some (iJ "str" T)
 lst:PySem.W.kitOne K (.type "list") (.type T)=some (iJ "list" T)
 tup:PySem.W.kitOne K (.type "tuple") (.type T)=some (iJ "tuple" T)
theorem aEJ(K:Frag):Kit K "bool":=⟨rfl,rfl,rfl,rfl,rfl,rfl⟩
theorem yY(K:Frag):Kit K "str":=⟨rfl,rfl,rfl,rfl,rfl,rfl⟩
theorem aEK{X:Cx}:iU X (.builtin "isinstance") (fun xs H Q=>∃ a ys c cv b,xs=[.ref a,c]/\SqL X.K H a ys/\aAC c=some cv/\PySem.W.kitOne X.K (.type "list") cv=some b/\Q (.bl b) H):=by
 intro pins s σ H xs us Q I r h
 obtain ⟨a,ys,c,cv,b,rfl,ha,hc,e,q⟩:=h
 obtain ⟨u,v,rfl,ru,rv⟩:=vH r
 obtain rfl:=sP hc rv
 cases (show u=Value.ref a from ru)
 obtain ⟨its,_,pl,_⟩:=I.list ha
 obtain ⟨o,h1,h2,_⟩:=pl.isList
 exact PySem.W.kia_one PySem.W.kitx_list I.kIn ⟨o,h1,h2⟩ e (fun z=>nomatch z) fun tk=>⟨.bl b,H,I.tok _,rfl,q⟩
def aEL(c:Ct)(T:String):List V->Hp->VK->Prop:=fun xs H Q=>∃ F x v d,xs=[v,.ty T]/\aO F H/\aY c.K F H v x/\iK T x=.ok d/\∀ w F' H',Ext F H F' H'->DatV c.K F' w d->Q w H'
theorem qP(hK:X.K=c.K){T:String}(k:Kit X.K T):iU X (.builtin "isinstance") (aEL c T):=by
 intro pins s σ H xs us Q I r h
 obtain ⟨F,x,v,d,rfl,sf,ra,eg,q⟩:=h
 cases x with
 | dict _=>cases eg
 | none=>
  cases eg
  obtain rfl:=aY.non_of ra
  exact jX pins s σ H _ us Q I r ⟨_,_,_,_,_,rfl,.pl .non,rfl,k.non,q _ F H (Ext.refl sf) (.bl _)⟩
 | bool b=>
  cases eg
  obtain rfl:=aY.bl_of ra
  exact jX pins s σ H _ us Q I r ⟨_,_,_,_,_,rfl,.pl (.bl b),rfl,k.bl,q _ F H (Ext.refl sf) (.bl _)⟩
 | int b=>
  cases eg
  obtain rfl:=aY.int_of ra
  exact jX pins s σ H _ us Q I r ⟨_,_,_,_,_,rfl,.pl (.int b),rfl,k.int,q _ F H (Ext.refl sf) (.bl _)⟩
 | str b=>
  cases eg
  obtain rfl:=aY.str_of ra
  exact jX pins s σ H _ us Q I r ⟨_,_,_,_,_,rfl,.pl (.str b),rfl,k.str,q _ F H (Ext.refl sf) (.bl _)⟩
 | tuple xs=>
  cases eg
  obtain ⟨p,vs,rfl,_,h1,h2⟩:=aY.tup_of sf ra
  rw[<-hK] at h1
  exact wN pins s σ H _ us Q I r ⟨p,vs,_,_,_,rfl,h1,rfl,k.tup,q _ F H (Ext.refl sf) (.bl _)⟩
 | list xs=>
  cases eg
  obtain ⟨p,vs,rfl,h1,h2⟩:=aY.lst_of sf ra
  rw[<-hK] at h1
  exact aEK pins s σ H _ us Q I r ⟨p,vs,_,_,_,rfl,h1,rfl,k.lst,q _ F H (Ext.refl sf) (.bl _)⟩
theorem w5{T:String}{f:Sg->R PyData}(h:PE X e (tCB (aEL c T) (d0 (tV (aV c) c E f) (d0 (tC (.ty T)) gG)))):PD X c E e (e1 (iK T) f):=PE.imp h fun σ H Q zz0=>by
 obtain ⟨ρ,F,ab,k⟩:=zz0
 refine ⟨ρ,F,ab,(Rk.bind k).imp fun x _ q v F1 H1 s1 r1=>?_⟩
 show aEL c T [v,.ty T] H1 Q
 cases x with
 | dict _=>exact q.elim
 | none=>exact ⟨F1,_,v,_,rfl,s1.fh,r1,rfl,fun w F' H' s r=>Rk.ok q w F' H' (s1.trans s) r⟩
 | bool _=>exact ⟨F1,_,v,_,rfl,s1.fh,r1,rfl,fun w F' H' s r=>Rk.ok q w F' H' (s1.trans s) r⟩
 | int _=>exact ⟨F1,_,v,_,rfl,s1.fh,r1,rfl,fun w F' H' s r=>Rk.ok q w F' H' (s1.trans s) r⟩
 | str _=>exact ⟨F1,_,v,_,rfl,s1.fh,r1,rfl,fun w F' H' s r=>Rk.ok q w F' H' (s1.trans s) r⟩
 | list _=>exact ⟨F1,_,v,_,rfl,s1.fh,r1,rfl,fun w F' H' s r=>Rk.ok q w F' H' (s1.trans s) r⟩
 | tuple _=>exact ⟨F1,_,v,_,rfl,s1.fh,r1,rfl,fun w F' H' s r=>Rk.ok q w F' H' (s1.trans s) r⟩
noncomputable def nJ:List PyData->Option (List Str)
 | []=>some []
 | .str s::t=>(nJ t).map (s :: ·)
 | _=>none
theorem mF{K:Frag}{F:Hp}:∀ {vs:List V} {xs:List PyData} {ys:List Str},DatVs K F vs xs->nJ xs=some ys->vs=ys.map V.str
 | _,_,ys,.nil,e=>by cases e;rfl
 | _,_,ys,.cons (d:=d) (ds:=t) h h2,e=>by
  cases d with
  | str b=>
   unfold nJ at e
   cases q:nJ t with
   | none=>rw[q] at e;cases e
   | some cs=>
    rw[q] at e
    cases e
    rw[mF h2 q,h.str_of];rfl
  | _=>cases e
noncomputable def vS:PyData->PyData->R PyData
 | .str sep,.list xs=>match nJ xs with
  | some ys=>if (ys.map fun y=>y.length).sum+ys.length * sep.length<=16777216 then .ok (.str (Txt.join sep ys)) else .bad
  | none=>.bad
 | _,_=>.bad
theorem aHB{f g:Sg->R PyData}(hK:X.K=c.K)(h:PE X e (tBM X.K "str" (aFQ X.K) (tV (aV c) c E f) (d0 (tV (aV c) c E g) gG)))(hs:∀ ρ x,f ρ=.ok x->∃ z,x=.str z):PD X c E e (e2 vS f g):=PE.imp h fun σ H Q ⟨ρ,F,ab,k⟩=>by
 refine ⟨ρ,F,ab,(Rk.bind k).imp fun x ex q v F1 H1 s1 r1=>?_⟩
 obtain ⟨z,rfl⟩:=hs ρ x ex
 obtain rfl:=aY.str_of r1
 refine ⟨rfl,ρ,F1,ab.ext s1,((Rk.bind q).ext s1).imp fun y _ q u F2 H2 s2 r2=>?_⟩
 cases y with
 | list xs=>
  have q':Rk c E F H (match nJ xs with
   | some ys=>if (ys.map fun y=>y.length).sum+ys.length * z.length<=16777216 then R.ok (PyData.str (Txt.join z ys)) else .bad
   | none=>.bad) (fun d=>∀ v F' H',Ext F H F' H'->bT c d v H F' H'->Q v H'):=q
  split at q'
  ·rename_i ys hy
   split at q'
   ·rename_i hz
    obtain ⟨p,vs,rfl,h1,h2⟩:=aY.lst_of s2.fh r2
    rw[<-hK] at h1
    obtain rfl:=mF h2 hy
    exact ⟨z,p,ys,rfl,rfl,h1,hz,Rk.ok q' _ F2 H2 (s1.trans s2) (.str _)⟩
   ·exact q'.elim
  ·exact q'.elim
 | _=>exact q.elim
noncomputable def oX:PyData->PyData->R PyData
 | .str z,.str y=>match Builtin.Str.occurrences z y 0 z.length 1 with
  | i::_=>.ok (.int i)
  | []=>.bad
 | _,_=>.bad
theorem w8{f g:Sg->R PyData}(h:PE X e (tBM X.K "str" aBZ (tV (aV c) c E f) (d0 (tV (aV c) c E g) gG)))(hs:∀ ρ x,f ρ=.ok x->∃ z,x=.str z):PD X c E e (e2 oX f g):=PE.imp h fun σ H Q ⟨ρ,F,ab,k⟩=>by
 refine ⟨ρ,F,ab,(Rk.bind k).imp fun x ex q v F1 H1 s1 r1=>?_⟩
 obtain ⟨z,rfl⟩:=hs ρ x ex
 obtain rfl:=aY.str_of r1
 refine ⟨rfl,ρ,F1,ab.ext s1,((Rk.bind q).ext s1).imp fun y _ q u F2 H2 s2 r2=>?_⟩
 cases y with
 | str y=>
  have q':Rk c E F H (match Builtin.Str.occurrences z y 0 z.length 1 with
   | i::_=>R.ok (PyData.int i)
   | []=>.bad) (fun d=>∀ v F' H',Ext F H F' H'->bT c d v H F' H'->Q v H'):=q
  split at q'
  ·rename_i i rest ho
   obtain rfl:=aY.str_of r2
   exact ⟨z,y,i,rest,rfl,rfl,ho,Rk.ok q' _ F2 H2 (s1.trans s2) (.int _)⟩
  ·exact q'.elim
 | _=>exact q.elim
noncomputable def iL:Nat->List PyData->List PyData
 | _,[]=>[]
 | i,x::t=>.tuple [.int i,x]::iL (i+1) t
theorem iM:∀ (i:Nat) (xs:List PyData),(iL i xs).length=xs.length
 | _,[]=>rfl
 | i,x::t=>by rw[iL,List.length_cons,List.length_cons,iM]
theorem qQ:∀ (k i:Nat) (xs:List PyData),(iL k xs)[i]? = (xs[i]?).map fun x=>.tuple [.int ((k+i:Nat):Int),x]
 | k,i,[]=>by simp[iL]
 | k,0,x::t=>by simp[iL]
 | k,i+1,x::t=>by rw[iL,List.getElem?_cons_succ,List.getElem?_cons_succ,qQ,show k+1+i=k+(i+1) by omega]
noncomputable def vT:PyData->R (List PyData)
 | .list xs=>if xs.length<=16777216 then .ok (iL 0 xs) else .bad
 | .str z=>if z.cps.toList.length<=16777216 then .ok (iL 0 (z.cps.toList.map fun u=>.str ⟨#[u]⟩)) else .bad
 | _=>.bad
theorem aEM{K:Frag}{F B:Hp}{a:Addr}{vs:List V}{xs:List PyData}(hz:xs.length<=16777216)(hs:∀ H1,aO F H1->aO B H1->SqL K H1 a vs)(hd:DatVs K F vs xs):Yld K (Ite K a) F B (iL 0 xs) where
 len:=by rw[dQ,iM];exact hz
 go:=fun i F1 H1 h1 h2 h3 hi=>by
  rw[iM] at hi
  exact ⟨vs,vs[i]'(by rw[hd.length];exact hi),hs H1 (fun x o z=>h2 x o (h1 x o z)) h3,by simp⟩
 yld:=fun i F1 H1 v H2 x h1 h2 h3 y e=>by
  obtain ⟨p,w,hp,rfl,rfl,y⟩:=y
  have q:=y vs (hs _ (fun x o z=>h2 x o (h1 x o z)) h3)
  obtain ⟨d,e2,r⟩:=hd.get q
  rw[qQ,e2] at e
  cases e
  refine ⟨_,Ext.new h2 hp,.tup (SqT.of aW) (.cons ?_ (.cons ((r.same h1).same (aO.upd (cA h2 hp))) .nil))⟩
  rw[Nat.zero_add];exact .int _
 stop:=fun F1 H1 h1 h2 h3=>⟨vs,hs H1 (fun x o z=>h2 x o (h1 x o z)) h3,by rw[hd.length,iM];exact Nat.le_refl _⟩
theorem aCC{K:Frag}{F B:Hp}{z:Str}(hz:z.cps.toList.length<=16777216):Yld K (Ity z) F B (iL 0 (z.cps.toList.map fun u=>.str ⟨#[u]⟩)) where
 len:=by rw[dQ,iM,List.length_map];exact hz
 go:=fun i F1 H1 h1 h2 h3 hi=>by
  rw[iM,List.length_map,Array.length_toList] at hi
  exact hi
 yld:=fun i F1 H1 v H2 x h1 h2 h3 y e=>by
  obtain ⟨p,u,hp,rfl,rfl,hu⟩:=y
  rw[qQ,List.getElem?_map,Array.getElem?_toList,hu] at e
  cases e
  refine ⟨_,Ext.new h2 hp,.tup (SqT.of aW) (.cons ?_ (.cons (.str _) .nil))⟩
  rw[Nat.zero_add];exact .int _
 stop:=fun F1 H1 h1 h2 h3=>by
  show (iL 0 _).length=z.cps.size
  rw[iM,List.length_map,Array.length_toList]
theorem aJJ{tg:Expr}{f:Sg->R PyData}(hK:X.K=c.K)(h:PI X tg e (aFO X.K (d0 (tV (bT c) c E f) gG)))(h':PI X tg e (aB0 (d0 (tV (bT c) c E f) gG))):PI0 X c E tg e (e1 vT f):=PI.imp (PI.or h h') fun σ H Q ⟨ρ,F,ab,k⟩=>by
 have k':=Rk.bind k
 cases hf:f ρ with
 | bad=>rw[hf] at k';exact k'.elim
 | ex x=>rw[hf] at k';exact .inl ⟨ρ,F,ab,by rw[hf];exact k'⟩
 | ok d=>
  rw[hf] at k'
  have k2:=Rk.ok k'
  unfold vT at k2
  split at k2
  ·rename_i xs
   split at k2
   ·rename_i hz
    refine .inl ⟨ρ,F,ab,?_⟩
    rw[hf]
    intro v F' H' s r
    obtain ⟨p,vs,rfl,h1,h2⟩:=DatV.lst_of r
    refine ⟨p,rfl,⟨vs,?_⟩,?_⟩
    · rw [hK]; exact h1.same s.fh
    · rw [hK]; exact Rk.ok k2 _ F' H' s (aEM hz (fun H1 q _ => h1.same q) h2)
   ·exact k2.elim
  ·rename_i z
   split at k2
   ·rename_i hz
    refine .inr ⟨ρ,F,ab,?_⟩
    rw[hf]
    intro v F' H' s r
    obtain rfl:=DatV.str_of r
    exact ⟨z,rfl,Rk.ok k2 _ F' H' s (aCC hz)⟩
   ·exact k2.elim
  ·exact k2.elim
end
end Fl
namespace Fl
open PySem L2 PyProof.Rows
noncomputable def jQ(kvs:List (PyData×PyData))(k:PyData):Option PyData:=(kvs.find? fun p=>decide (p.1=k)).map (·.2)
noncomputable def eU(kvs:List (PyData×PyData))(k:PyData):Bool:=(jQ kvs k).isSome
noncomputable def putM(kvs:List (PyData×PyData))(k v:PyData):List (PyData×PyData):=if eU kvs k=true then kvs.map (fun p=>if p.1=k then (p.1,v) else p) else kvs++[(k,v)]
theorem yZ{K:Frag}{F:Hp}{k:PyData}:∀ {es:List Ent} {kvs:List (PyData×PyData)},es.map (·.1)=kvs.map (·.1)->DatVs K F (es.map (·.2.2)) (kvs.map (·.2))->
  (atE es k=none/\jQ kvs k=none)\/∃ v d,atE es k=some v/\jQ kvs k=some d/\DatV K F v d
 | [],[],_,_=>.inl ⟨rfl,rfl⟩
 | [],_::_,h,_=>by cases h
 | _::_,[],h,_=>by cases h
 | e::es,p::kvs,h,r=>by
  rw[List.map_cons,List.map_cons] at h r
  injection h with h1 h2
  obtain ⟨v,t,e1,r1,r2⟩:=r.cons_of
  rw[List.cons.injEq] at e1
  obtain ⟨rfl,rfl⟩:=e1
  have ih:=yZ (k:=k) h2 r2
  unfold atE jQ at ih ⊢
  rw[List.find?_cons,List.find?_cons,h1]
  by_cases q:p.1=k
  · rw [decide_eq_true q]; exact .inr ⟨_, _, rfl, rfl, r1⟩
  · rw [decide_eq_false q]; exact ih
theorem MapRel.get{K:Frag}{F:Hp}{es:List Ent}{kvs:List (PyData×PyData)}(m:MapRel K F es kvs)(k:PyData):(atE es k=none/\jQ kvs k=none)\/∃ v d,atE es k=some v/\jQ kvs k=some d/\DatV K F v d:=yZ m.k1 m.vs
theorem MapRel.has{K:Frag}{F:Hp}{es:List Ent}{kvs:List (PyData×PyData)}(m:MapRel K F es kvs)(k:PyData):(atE es k).isSome=eU kvs k:=by
 unfold eU
 rcases m.get k with ⟨a,b⟩|⟨v,d,a,b,_⟩<;>rw[a,b]<;>rfl
theorem w9{kvs:List (PyData×PyData)}{k:PyData}:eU kvs k=true↔k∈kvs.map (·.1):=by
 unfold eU jQ
 rw[Option.isSome_map]
 induction kvs with
 | nil=>simp
 | cons p t ih=>
  rw[List.find?_cons]
  by_cases q:p.1=k
  ·rw[decide_eq_true q];simp[q]
  ·rw[decide_eq_false q,ih,List.map_cons]
   exact ⟨fun z=>List.mem_cons_of_mem _ z,fun z=>(List.mem_cons.mp z).resolve_left (fun w=>q w.symm)⟩
theorem aCD{kvs:List (PyData×PyData)}{k v:PyData}:(putM kvs k v).map (·.1)=if eU kvs k=true then kvs.map (·.1) else kvs.map (·.1)++[k]:=by
 unfold putM
 cases h:eU kvs k with
 | true=>
  rw[if_pos rfl,if_pos rfl,List.map_map]
  refine List.map_congr_left fun p _=>?_
  show (if p.1=k then (p.1,v) else p).1=p.1
  split<;>rfl
 | false=>rw[if_neg (by decide),if_neg (by decide),List.map_append];rfl
theorem y0{K:Frag}{F:Hp}{k d:PyData}{v:V}(r:DatV K F v d):∀ {es:List Ent} {kvs:List (PyData×PyData)},es.map (·.1)=kvs.map (·.1)->DatVs K F (es.map (·.2.1)) (kvs.map (·.1))->DatVs K F (es.map (·.2.2)) (kvs.map (·.2))->
  (es.map fun e=>if e.1=k then (e.1,e.2.1,v) else e).map (·.1)=(kvs.map fun p=>if p.1=k then (p.1,d) else p).map (·.1) /\
  DatVs K F ((es.map fun e=>if e.1=k then (e.1,e.2.1,v) else e).map (·.2.1)) ((kvs.map fun p=>if p.1=k then (p.1,d) else p).map (·.1)) /\
  DatVs K F ((es.map fun e=>if e.1=k then (e.1,e.2.1,v) else e).map (·.2.2)) ((kvs.map fun p=>if p.1=k then (p.1,d) else p).map (·.2))
 | [],[],_,_,_=>⟨rfl,.nil,.nil⟩
 | [],_::_,h,_,_=>by cases h
 | _::_,[],h,_,_=>by cases h
 | e::es,p::kvs,h,rk,rv=>by
  rw[List.map_cons,List.map_cons] at h rk rv
  injection h with h1 h2
  obtain ⟨_,_,e1,r1,r2⟩:=rk.cons_of
  rw[List.cons.injEq] at e1
  obtain ⟨rfl,rfl⟩:=e1
  obtain ⟨_,_,e1,q1,q2⟩:=rv.cons_of
  rw[List.cons.injEq] at e1
  obtain ⟨rfl,rfl⟩:=e1
  obtain ⟨a1,a2,a3⟩:=y0 r h2 r2 q2
  simp only[List.map_cons]
  rw[h1,a1]
  by_cases q:p.1=k
  · rw [if_pos q, if_pos q]; exact ⟨rfl, .cons r1 a2, .cons r a3⟩
  · rw [if_neg q, if_neg q]; exact ⟨by rw [h1], .cons r1 a2, .cons q1 a3⟩
theorem MapRel.put{K:Frag}{F:Hp}{es:List Ent}{kvs:List (PyData×PyData)}{k d:PyData}{kv v:V}(m:MapRel K F es kvs)(rk:DatV K F kv k)(r:DatV K F v d):MapRel K F (oR es k kv v) (putM kvs k d):=by
 have hh:=m.has k
 have nd:((putM kvs k d).map (·.1)).Nodup:=by
  rw[aCD]
  cases h:eU kvs k with
  | true=>rw[if_pos rfl];exact m.nd
  | false=>
   rw[if_neg (by decide),List.nodup_append]
   refine ⟨m.nd,by simp,fun a ha b hb z=>?_⟩
   rw[List.mem_singleton] at hb
   subst hb z
   rw[w9.mpr ha] at h
   cases h
 unfold oR
 rw[hh]
 unfold putM at nd ⊢
 cases h:eU kvs k with
 | true=>
  rw[h,if_pos rfl] at nd
  rw[if_pos rfl,if_pos rfl]
  obtain ⟨a1,a2,a3⟩:=y0 (k:=k) r m.k1 m.k2 m.vs
  exact ⟨a1,a2,a3,nd⟩
 | false=>
  rw[h,if_neg (by decide)] at nd
  rw[if_neg (by decide),if_neg (by decide)]
  refine ⟨by rw[List.map_append,List.map_append,m.k1];rfl,?_,?_,nd⟩
  ·rw[List.map_append,List.map_append];exact m.k2.append (.cons rk .nil)
  ·rw[List.map_append,List.map_append];exact m.vs.append (.cons r .nil)
theorem oY{K:Frag}{F:Hp}:∀ {es:List Ent} {kvs:List (PyData×PyData)},es.map (·.1)=kvs.map (·.1)->DatVs K F (es.map (·.2.1)) (kvs.map (·.1))->∀ e∈es,DatV K F e.2.1 e.1
 | [],_,_,_,e,he=>by cases he
 | _::_,[],h,_,_,_=>by cases h
 | e0::es,p::kvs,h,rk,e,he=>by
  rw[List.map_cons,List.map_cons] at h rk
  injection h with h1 h2
  obtain ⟨_,_,e1,r1,r2⟩:=rk.cons_of
  rw[List.cons.injEq] at e1
  obtain ⟨rfl,rfl⟩:=e1
  rcases List.mem_cons.mp he with z|z
  · subst z; rw [h1]; exact r1
  · exact oY h2 r2 e z
section
variable{X:Cx}{c:Ct}{E:XK}{e a b:Expr}{st:Stmt}{pos:Pos}
theorem aFT{ρ:Sg}{σ:L2.St}{F H:Hp}{i:Nat}{kvs:List (PyData×PyData)}{k:PyData}{kv:V}(hK:X.K=c.K)(hW:X.w=c.w)(ab:Ab c ρ σ F H)(hi:ρ[i]? = some (some (.m kvs)))(hk:DatV c.K F kv k)(hs:eD k (kvs.map (·.1))=true) :
  ∃ p es,σ[i]? = some (some (.ref p))/\DicAt X H p es k kv/\MapRel c.K F es kvs:=by
 obtain ⟨v,hp,p,es,rfl,⟨ep,h2⟩,h3,h4,h5⟩:=ab.slot i _ hi
 refine ⟨p,es,hp,⟨⟨ep,by rw[hW];exact h2⟩,fun e he=>by rw[hK];exact (oY h5.k1 h5.k2 e he).same ab.fh,by rw[h5.k1];exact h5.nd,by rw[hK];exact hk.same ab.fh,by rw[h5.k1];exact hs⟩,h5⟩
theorem aJK{ρ:Sg}{σ:L2.St}{F H:Hp}{i:Nat}{kvs:List (PyData×PyData)}{k:PyData}{kv:V}(hK:X.K=c.K)(hW:X.w=c.g.w)(ab:Ab c ρ σ F H)(hi:ρ[i]? = some (some (.f kvs)))(hk:DatV c.K F kv k)(hs:eD k (kvs.map (·.1))=true) :
  ∃ p es,σ[i]? = some (some (.ref p))/\DicAt X H p es k kv/\MapRel c.K F es kvs:=by
 obtain ⟨v,hp,p,es,rfl,⟨ep,h2⟩,h5⟩:=ab.slot i _ hi
 refine ⟨p,es,hp,⟨⟨ep,by rw[hW];exact ab.fh _ _ h2⟩,fun e he=>by rw[hK];exact (oY h5.k1 h5.k2 e he).same ab.fh,by rw[h5.k1];exact h5.nd,by rw[hK];exact hk.same ab.fh,by rw[h5.k1];exact hs⟩,h5⟩
def aFU(w:World):TE:=fun _ H Q=>∀ p,H p=none->Q (.ref p) (upd H p (jK w p [] 0))
theorem aHC:PE X (.Dict [] [] pos) (aFU X.w):=fun pins s σ H Q I h=>
 wpAny_Dict_empty ⟨.ref s.heap.objs.size,_,I.laid (a:=s.heap.objs.size) (o:=jK X.w s.heap.objs.size [] 0) (t':=s.toks) (fun _ _ q=>Heap.get?_push_of_some _ q) (Nat.le_refl _)
  (sT (beq_eq_false_iff_ne.mpr (Ne.symm (Nat.ne_of_lt I.big))) ⟨_,#[],Heap.get?_push_size _ rfl,⟨rfl,rfl,rfl⟩,rfl,.nil⟩),rfl,h _ (I.hok.fresh (Nat.le_refl _))⟩
noncomputable def pR(i:Nat):Sg->R Fw:=fun ρ=>.ok (.nx (ρ.set i (some (.m []))))
theorem aHD{i:Nat}{w:World}(hW:w=c.w)(h:PS X st (l3 (aFU w) (jW i))):PSf X c E st (pR i):=PS.imp h fun D σ H ⟨ρ,F,ab,k⟩=>fun p hp=>by
 subst hW
 exact Rk.ok k _ F _ (cU F) (ab.setM (Ext.own ab.fh hp) hp aW (cA ab.fh hp) ⟨rfl,.nil,.nil,List.nodup_nil⟩)
noncomputable def qR(neg:Bool)(i:Nat)(f:Sg->R PyData):Sg->R PyData:=fun ρ=>(f ρ).bind fun k=>match ρ[i]? with
 | some (some (.m kvs))=>if eD k (kvs.map (·.1))=true then .ok (.bool (if neg=true then !eU kvs k else eU kvs k)) else .bad
 | some (some (.f kvs))=>if eD k (kvs.map (·.1))=true then .ok (.bool (if neg=true then !eU kvs k else eU kvs k)) else .bad
 | _=>.bad
def aEN(X:Cx)(neg:Bool):R2:=fun y x H Q=>∃ p es k,x=.ref p/\DicAt X H p es k y/\Q (.bl (if neg=true then !(atE es k).isSome else (atE es k).isSome)) H
theorem aEO(hu:X.A.units+64 < cLine):OpR X (compareOp .NotIn) (aEN X true):=by
 intro pins s σ H y x v u Q I ry rx h
 obtain ⟨p,es,k,rfl,D,q⟩:=h
 cases (show u=Value.ref p from rx)
 exact aG4 hu D I ry fun s' I'=>⟨.bl _,H,I',rfl,q⟩
theorem aEP{i:Nat}{neg:Bool}{f:Sg->R PyData}(hK:X.K=c.K)(hW:X.w=c.w)(hg:c.w=c.g.w){σ:L2.St}{H:Hp}{Q:VK}(h:tV (bT c) c E (qR neg i f) σ H Q):tOp (aEN X neg) (tV (bT c) c E f) (j9 i) σ H Q:=by
 obtain ⟨ρ,F,ab,k⟩:=h
 refine ⟨ρ,F,ab,(Rk.bind k).imp fun d _ q v F1 H1 s1 r1=>?_⟩
 split at q
 ·rename_i kvs hi
  split at q
  ·rename_i hs
   obtain ⟨p,es,hp,D,m⟩:=aFT hK hW (ab.ext s1) hi r1 hs
   refine ⟨_,hp,p,es,d,rfl,D,?_⟩
   rw[m.has]
   exact Rk.ok q _ F1 H1 s1 (.bl _)
  ·exact q.elim
 ·rename_i kvs hi
  split at q
  ·rename_i hs
   obtain ⟨p,es,hp,D,m⟩:=aJK hK (hW.trans hg) (ab.ext s1) hi r1 hs
   refine ⟨_,hp,p,es,d,rfl,D,?_⟩
   rw[m.has]
   exact Rk.ok q _ F1 H1 s1 (.bl _)
  ·exact q.elim
 ·exact q.elim
theorem aJL{i:Nat}{neg:Bool}{f:Sg->R PyData}(hK:X.K=c.K)(hW:X.w=c.w)(h:PT X e (vG (tOp (aEN X neg) (tV (bT c) c E f) (j9 i))))(hg:c.w=c.g.w:=by rfl):PTf X c E e (e1 asB (qR neg i f)):=PT.imp h fun σ H Q q=>aEP hK hW hg (mJ q)
noncomputable def aLF(i:Nat)(f:Sg->R PyData):Sg->R PyData:=fun ρ=>match ρ[i]? with
 | some (some (.m kvs))=>(f ρ).bind fun k=>if eD k (kvs.map (·.1))=true then match jQ kvs k with
  | some v=>.ok v
  | none=>.bad else .bad
 | some (some (.f kvs))=>(f ρ).bind fun k=>if eD k (kvs.map (·.1))=true then match jQ kvs k with
  | some v=>.ok v
  | none=>.bad else .bad
 | _=>.bad
noncomputable def pS(i:Nat)(f g:Sg->R PyData):Sg->R Fw:=fun ρ=>(g ρ).bind fun v=>match ρ[i]? with
 | some (some (.m kvs))=>(f ρ).bind fun k=>if eD k (kvs.map (·.1))=true/\kvs.length<=16777216 then .ok (.nx (ρ.set i (some (.m (putM kvs k v))))) else .bad
 | _=>.bad
def aFV(X:Cx):zO:=fun o i v H Q=>∃ p es k,o=.ref p/\DicAt X H p es k i/\es.length<=sizeLine/\∀ ep,Q (upd H p (jK X.w p (oR es k i v) ep))
theorem aEQ(hu:X.A.units+64 < cLine):aIF X (aFV X):=by
 intro pins s σ H o i v ov iv u Q I ro ri rv h
 obtain ⟨p,es,k,rfl,D,hz,q⟩:=h
 cases (show ov=Value.ref p from ro)
 exact aG5 hu D I ri rv hz fun ep s' I'=>⟨_,I',q ep⟩
theorem aHE{i:Nat}{f g:Sg->R PyData}(hK:X.K=c.K)(hW:X.w=c.w)(h:PS X st (l3 (tV (bT c) c E g) (aIH (j9 i) (tV (bT c) c E f) (aFV X)))):PSf X c E st (pS i f g):=PS.imp h fun D σ H ⟨ρ,F,ab,k⟩=>by
 refine ⟨ρ,F,ab,(Rk.bind k).imp fun x _ q v F1 H1 s1 r1=>?_⟩
 split at q
 ·rename_i kvs hi
  have ab1:=ab.ext s1
  obtain ⟨_,hp,p,es,rfl,_⟩:=ab1.slot i _ hi
  refine ⟨_,hp,ρ,F1,ab1,((Rk.bind q).ext s1).imp fun d _ q u F2 H2 s2 r2=>?_⟩
  have ab2:=ab1.ext s2
  split at q
  ·rename_i hs
   obtain ⟨p',es',hp',D',m⟩:=aFT hK hW ab2 hi r2 hs.1
   rw[hp] at hp'
   cases hp'
   refine ⟨p,es',d,rfl,D',?_,?_⟩
   ·have:es'.length=kvs.length:=by have:=congrArg List.length m.k1;simpa using this
    rw[this,dQ];exact hs.2
   ·intro ep
    rw[hW]
    exact Rk.ok q σ F2 _ (s1.trans s2).ff (ab2.putM hi hp (m.put r2 (DatV.same s2.ff r1)))
  ·exact q.elim
 ·exact q.elim
end
theorem xA{K:Frag}{a:Addr}{vs:List V}{xs:List PyData}(m:Mc.m5 K a vs)(h:∀ F,DatVs K F vs xs)(F:Hp):DatV K F (.ref a) (.tuple xs):=.tup (m.sq F) (h F)
end Fl
namespace Fl
open PySem L2 PyProof.Rows
section
variable{X:Cx}{c:Ct}{E:XK}{e a b:Expr}{st:Stmt}{pos p2:Pos}
def nK(fs:PyData->Sg->Option Sg)(f:Sg->R PyData):Sg->R Fw:=fun ρ=>(f ρ).bind fun x=>(tD (fs x ρ)).bind fun ρ'=>.ok (.nx ρ')
theorem oZ{g:TG}{fs:PyData->Sg->Option Sg}{is:List Nat}{f:Sg->R PyData}(hg:Tg c g fs is)(h:PS X st (l3 (tV (bT c) c E f) g)):PSf X c E st (nK fs f):=PS.imp h fun D σ H zz0=>by
 obtain ⟨ρ,F,ab,k⟩:=zz0
 refine ⟨ρ,F,ab,(Rk.bind k).imp fun x _ q v F1 H1 s1 r1=>?_⟩
 cases h1:fs x ρ with
 | none=>rw[h1] at q;exact q.elim
 | some ρ'=>
  rw[h1] at q
  exact hg v x ρ ρ' σ F1 H1 _ (ab.ext s1) r1 h1 fun σ' _ _ ab'=>Rk.ok q σ' F1 H1 s1.ff ab'
noncomputable def aJM:PyData->R PyData
 | .str z=>if z.length<=16777216 then .ok (.str ⟨z.cps.toList.reverse.toArray⟩) else .bad
 | _=>.bad
def aMK(f:Sg->R PyData)(g:Sg->R (Option Int)):Sg->R PyData:=fun ρ=>(f ρ).bind fun x=>(g ρ).bind fun o=>if o=some (-1) then aJM x else .bad
end
end Fl
namespace Fl
open PySem L2 PyProof.Rows
theorem aJN{P:Program}{w:World}{K:Frag}{mg:Str->Option Value}{base:Heap}{T:Hp}{x:Str}{st:Stmt}{N ps:List Str}{k:Nat}{f:Addr}{fd:FuncData}{fb:Sg->R Fw}(FL:Fun K x x st f fd)(S:FnScope N ps (aL st))
  (hbody:∀ (cdv:Value) (A:Around) (outer:List Env) (s:Shared) (H F:Hp) (E:XK),Room k (A.deeper (envOfC x (aL st) s.heap.objs.size f cdv))->
   kX ((iH (CXe P w) P w K mg base N x (aL st) f cdv A outer s H E).fly E) ⟨K,mg,w,F,H,gOf P w K mg base T,(envOfC x (aL st) s.heap.objs.size f cdv).cells,fun _=>none⟩ E (b5 st) fb):FnOk P w K mg base (CXe P w) (k+1) f fd ps (spF (gOf P w K mg base T) K mg ps.length (fnF N.length fb)):=by
 refine FL.okX S (fun vs H Q E h=>?_) (fun cdv A outer s H vs Q E hr h=>?_)
 ·obtain ⟨F,as,_,_,h2,h3,_⟩:=h
  rw[h2.len,h3]
 ·obtain ⟨F,as,h0,h1,h2,h3,h4⟩:=h
  exact ⟨_,hbody cdv A outer s H F E hr,tF h0 h1 h2 h4⟩
def vU(K:Frag)(T:Hp):Sp:=fun vs H Q _=>∃ (a:Addr) (ns:List Int),vs=[.ref a]/\ns.length<=63/\aO T H/\SqL K H a (ns.map V.int)/\∀ H',Q (.bl true) H'
theorem xB{K:Frag}{H:Hp}:∀ (ns:List Int),DatVs K H (ns.map V.int) (ns.map PyData.int)
 | []=>.nil
 | n::t=>.cons (.int n) (xB t)
theorem aJO{P:Program}{w:World}{K:Frag}{mg:Str->Option Value}{base:Heap}{T:Hp}{k:Nat}{f:Addr}{fd:FuncData}{x:Str}{G:List A->R A}(h:FnOk P w K mg base (CXe P w) k f fd [x] (spF (gOf P w K mg base T) K mg 1 G))
  (hl:∀ ns:List Int,ns.length<=63->G [.d (.list (ns.map .int))]=.ok (.d (.bool true))):FnOk P w K mg base (CXe P w) k f fd [x] (vU K T):=h.imp fun vs H Q E=>by
 rintro ⟨a,ns,rfl,hn,ht,hs,q⟩
 refine ⟨H,[.d (.list (ns.map .int))],ht,cU H,⟨.lst hs (xB ns),trivial⟩,rfl,?_⟩
 rw[hl ns hn]
 intro v F' H' _ r
 obtain rfl:=DatV.bl_of r
 exact q H'
theorem aLG(P:Program)(w:World)(H:Hp)(s:Shared)(e:Value)(s':Shared)(h:CXe P w [] H s (fun _ _ _=>False) e s'):False:=by
 obtain ⟨_,_,_,_,_,_,_,_,_,_,_,q⟩:=h
 exact q
theorem aJP{l:PySem.W.OpenLaw}{k:Nat}{q:Program}{loose:List Str}{XP:(Str->Option Value)->Heap->Prop}{YP:World->Heap->Prop}{d:DefRec}{K:Params->Frag}{x:Str}
  (hn:l.most=some 63) (hdf:d.params.defaults=[]) (hr:Room k callerA)
  (hY:∀ (w:World) (h:Heap),YP w h->(K w.params).In h)
  (F:∀ (w:World) (mg:Str->Option Value) (fa:Addr) (h:Heap),(K w.params).In h->h.Ns mainGlobals mg->mg d.name=some (.ref fa)->
   ∃ fd:FuncData,(∀ (s:Shared) (u:Value),BindsTo s fd ⟨[u],[]⟩ [(x,u)]) /\
    ∀ base:Heap,(K w.params).In base->base.Ns mainGlobals mg->FnOk l.prog w (K w.params) mg base (CXe l.prog w) k fa fd [x] (vU (K w.params) fun _=>none)) :
  PySem.W.WalkO q loose XP YP l.row.toRowW d [] (fun f vs=>PySem.call f vs):=
 walk_of (K:=K) (CX:=fun w=>CXe l.prog w) (sp:=fun w=>vU (K w.params) fun _=>none) hn (by decide) hdf hr hY F (fun w H a ns hl hO hS=>⟨a,ns,rfl,hl,fun _ _ z=>(nomatch z),hS,fun _=>rfl⟩) fun w H s e s' z=>aLG _ w H s e s' z
end Fl
namespace Fl
open PySem L2 PyProof.Rows
variable{X:Cx}{c:Ct}{E:XK}{e:Expr}
noncomputable def d2(G:Int->Int->Int):PyData->PyData->R PyData
 | .int i,.int j=>.ok (.int (G i j))
 | _,_=>.bad
noncomputable def d1(G:Int->Int):PyData->R PyData
 | .int i=>.ok (.int (G i))
 | _=>.bad
noncomputable def kB(i j:Int):Int:=if j < i then j else i
def o0(i:Int):Int:=if i < 0 then -i else i
theorem aJQ{G:Int->Int->Int}{f g:Sg->R PyData}(h0:PE X e (tCB (fun xs H Q=>∃ i j,xs=[.int i,.int j]/\Q (.int (G i j)) H) (d0 (tV (aV c) c E f) (d0 (tV (aV c) c E g) gG)))):PD X c E e (e2 (d2 G) f g):=PE.imp h0 fun σ H Q zz0=>by
 obtain ⟨ρ,F,ab,k⟩:=zz0
 refine ⟨ρ,F,ab,(Rk.bind k).imp fun x ex q v F1 H1 s1 r1=>?_⟩
 refine ⟨ρ,F1,ab.ext s1,((Rk.bind q).ext s1).imp fun y _ q u F2 H2 s2 r2=>?_⟩
 cases x with
 | int i=>
  cases y with
  | int j=>
   obtain rfl:=aY.int_of r1
   obtain rfl:=aY.int_of r2
   exact ⟨i,j,rfl,Rk.ok q _ F2 H2 (s1.trans s2) (.int _)⟩
  | _=>exact q.elim
 | _=>exact q.elim
theorem aHF{G:Int->Int}{f:Sg->R PyData}(h0:PE X e (tCB (fun xs H Q=>∃ i,xs=[.int i]/\Q (.int (G i)) H) (d0 (tV (aV c) c E f) gG))):PD X c E e (e1 (d1 G) f):=PE.imp h0 fun σ H Q zz0=>by
 obtain ⟨ρ,F,ab,k⟩:=zz0
 refine ⟨ρ,F,ab,(Rk.bind k).imp fun x ex q v F1 H1 s1 r1=>?_⟩
 cases x with
 | int i=>
  obtain rfl:=aY.int_of r1
  exact ⟨i,rfl,Rk.ok q _ F1 H1 s1 (.int _)⟩
 | _=>exact q.elim
end Fl
namespace L2
open PySem PyProof.Rows
variable{X:Cx}
end L2
namespace Fl
open PySem L2 PyProof.Rows
variable{X:Cx}{c:Ct}{E:XK}{e:Expr}
end Fl
namespace Fl
open PySem L2 PyProof.Rows
variable{X:Cx}{c:Ct}{E:XK}{e:Expr}{st:Stmt}
end Fl
namespace Fl
open PySem L2 PyProof.Rows
theorem gW{H:Hp}{p:Addr}{a b:HO}:upd (upd H p a) p b=upd H p b:=by
 funext x
 by_cases q:x=p
 · subst q; rw [aW, aW]
 · rw [aK q, aK q, aK q]
abbrev TP:=L2.St->Hp->(List (V×V)->Hp->Prop)->Prop
def aML(p:V×V)(u:Value×Value):Prop:=bH p.1 u.1/\bH p.2 u.2
def PPr(X:Cx)(keys:List (Option Expr))(vals:List Expr)(t:TP):Prop:=∀ (pos:Pos) (pins:List (Addr×Obj)) (s:Shared) (σ:L2.St) (H:Hp) (Q:List (V×V)->Hp->Prop),Inv X pins σ H s->t σ H Q->
 wpAny (model X.prog X.w) X.A (evalPairs (pairTrees keys vals X.env pos)) (fun vs s'=>∃ ps H',Inv X pins σ H' s'/\Paired aML ps vs/\Q ps H') X.xe s
section
variable{X:Cx}{c:Ct}{E:XK}{e a b:Expr}{st:Stmt}{pos:Pos}
noncomputable def xC:List (PyData×PyData)->List (PyData×PyData)->R (List (PyData×PyData))
 | acc,[]=>.ok acc
 | acc,(k,v)::t=>if eD k (acc.map (·.1))=true/\acc.length<=16777216 then xC (putM acc k v) t else .bad
theorem PPr.imp{X:Cx}{ks:List (Option Expr)}{vs:List Expr}{t t':TP}(h:PPr X ks vs t)(i:∀ σ H Q,t' σ H Q->t σ H Q):PPr X ks vs t':=fun pos pins s σ H Q I q=>h pos pins s σ H Q I (i σ H Q q)
noncomputable def aMM:Sg->R (List (PyData×PyData)):=fun _=>.ok []
def aLH(f g:Sg->R PyData)(r:Sg->R (List (PyData×PyData))):Sg->R (List (PyData×PyData)):=fun ρ=>(f ρ).bind fun x=>(g ρ).bind fun y=>(r ρ).bind fun t=>.ok ((x,y)::t)
noncomputable def aLI(i:Nat)(f:Sg->R (List (PyData×PyData))):Sg->R Fw:=fun ρ=>(f ρ).bind fun kvs=>(xC [] kvs).bind fun res=>.ok (.nx (ρ.set i (some (.m res))))
end
end Fl
namespace Fl
open PySem L2 PyProof.Rows
section
variable{X:Cx}{c:Ct}{E:XK}{e a b:Expr}{st:Stmt}{pos:Pos}
noncomputable def aJR(i:Nat)(f g:Sg->R PyData):Sg->R PyData:=fun ρ=>match ρ[i]? with
 | some (some (.m kvs))=>(f ρ).bind fun k=>(g ρ).bind fun y=>if eD k (kvs.map (·.1))=true then .ok ((jQ kvs k).getD y) else .bad
 | _=>.bad
end
end Fl
namespace Fl
open PySem L2 PyProof.Rows
section
variable{X:Cx}{c:Ct}{E:XK}
theorem xD{K:Frag}{F:Hp}{g:Str}{d:PyData}:∀ {fvs:List (Str×V)} {fs:List (Str×PyData)},fvs.map (·.1)=fs.map (·.1)->DatVs K F (fvs.map (·.2)) (fs.map (·.2))->fs.lookup g=some d->∃ v,fvs.lookup g=some v/\DatV K F v d
 | [],[],_,_,h=>by cases h
 | [],_::_,h,_,_=>by cases h
 | _::_,[],h,_,_=>by cases h
 | (a,v)::fvs,(b,x)::fs,h,r,e=>by
  rw[List.map_cons,List.map_cons] at h r
  injection h with h1 h2
  obtain ⟨v',t,e1,r1,r2⟩:=r.cons_of
  rw[List.cons.injEq] at e1
  obtain ⟨rfl,rfl⟩:=e1
  simp only at h1
  subst h1
  rw[List.lookup_cons] at e ⊢
  cases q:(g == a) with
  | true=>rw[q] at e;cases e;exact ⟨v,rfl,r1⟩
  | false=>rw[q] at e;exact xD h2 r2 e
end
end Fl
namespace Fl
open PySem L2 PyProof.Rows
end Fl
namespace Fl
open PySem L2 PyProof.Rows
section
variable{X:Cx}{c:Ct}{E:XK}{e:Expr}{P:Program}{w:World}{base:Heap}
end
end Fl
namespace L2
open PySem PySem.Spec PyProof.Rows
theorem cR.got{P:Program}{w:World}{H:Hp}{h:Heap}{a:Addr}{o:HO}(x:cR P w H h a o):∃ u,h.get? a=some u:=by
 cases o with
 | lst xs=>obtain ⟨_,_,_,_,e⟩:=x;exact ⟨_,e⟩
 | tup xs=>obtain ⟨_,_,_,⟨o,e,_⟩⟩:=x;exact ⟨_,e⟩
 | dK kvs=>obtain ⟨_,_,_,_,o,_,_,e,_⟩:=x;exact ⟨_,e⟩
 | dT kvs=>obtain ⟨_,_,_,_,o,_,_,e,_⟩:=x;exact ⟨_,e⟩
 | set S n=>obtain ⟨o,_,_,_,e,_⟩:=x;exact ⟨_,e⟩
 | ins C dx fs=>obtain ⟨_,_,_,e,_⟩:=x;exact ⟨_,e⟩
 | own y=>exact x
 | xd fs=>obtain ⟨_,⟨_,_,_,e,_⟩,_⟩:=x;exact ⟨_,e⟩
 | rng lo hi=>obtain ⟨_,_,_,e⟩:=x;exact ⟨_,e⟩
 | frz ob u=>exact ⟨_,x.1⟩
 | tbl ps=>obtain ⟨_,e,_⟩:=x;exact ⟨_,e⟩
 | cod q=>obtain ⟨c,o,vs,t,e,ho,_⟩:=x;cases e;exact ⟨_,ho⟩
 | met f y=>exact ⟨_,x⟩
 | ext φ=>exact x.2.1
theorem HOk.free{P:Program}{w:World}{H:Hp}{h:Heap}{a:Addr}(x:HOk P w H h)(e:h.get? a=none):H a=none:=by
 cases q:H a with
 | none=>rfl
 | some u=>
  obtain ⟨o,z⟩:=(x a u q).got
  rw[e] at z;cases z
structure ErrP(K:Frag)(mg:Str->Option Value)(x:Str)(W C:Addr):Prop where
 c:SX.ExcC K W C
 m:mg x=some (.ref C)
 lk:∃ nm q N bs sn sub ab col dd k0 k1 k2 k3 k5,K.lookup C=some (excClassObj nm q C N bs (.ref W::SX.hV) true sn sub ab col dd k0 k1 k2 k3 k5 "ValueError.__new__")/\PySem.W.nsOkIn K N=true/\PySem.W.nsIn K N "__init__"=some none
 lw:∃ c0 dd cd sl,K.lookup W=some ⟨c0,dd,.cls cd,sl⟩/\PySem.W.nsOkIn K cd.ns=true/\PySem.W.nsIn K cd.ns "__init__"=some none
def few(i:Int):Prop:=i=40\/i=60\/i=200\/i=300
end L2
namespace Fl
open PySem L2 PyProof.Rows
instance (i:Int):Decidable (few i):=by unfold few;infer_instance
section
variable{X:Cx}{c:Ct}{E:XK}{st:Stmt}{cn:Str}{C:Addr}
end
end Fl
namespace Fl
open PySem L2 PyProof.Rows
end Fl
namespace HT
open PySem PySem.Spec PyProof.Rows L2
end HT
namespace Fl
open PySem L2 PyProof.Rows
def FnK(K:Frag)(H:Hp)(f:Addr):Prop:=PySem.W.keepIn K (.ref f)=true\/∃ oc od fd sl,H f=some (FnO f ⟨oc,od,.func fd,sl⟩)
theorem FnK.same{K:Frag}{H H':Hp}{f:Addr}(s:aO H H')(h:FnK K H f):FnK K H' f:=h.imp id fun ⟨oc,od,fd,sl,e⟩=>⟨oc,od,fd,sl,s _ _ e⟩
def kH(K:Frag)(F H:Hp):List V->List PyData->Prop
 | [],[]=>True
 | v::vs,d::ds=>aY K F H v d/\kH K F H vs ds
 | _,_=>False
theorem kH.ext{K:Frag}{F H F' H':Hp}(e:Ext F H F' H'):∀ {vs:List V} {ds:List PyData},kH K F H vs ds->kH K F' H' vs ds
 | [],[],_=>trivial
 | v::vs,d::ds,h=>⟨aY.ext e h.1,kH.ext e h.2⟩
theorem kH.len{K:Frag}{F H:Hp}:∀ {vs:List V} {ds:List PyData},kH K F H vs ds->vs.length=ds.length
 | [],[],_=>rfl
 | v::vs,d::ds,h=>by rw[List.length_cons,List.length_cons,kH.len h.2]
theorem aMN{K:Frag}{F H:Hp}(s:aO F H):∀ {vs:List V} {ds:List PyData},kH K F H vs ds->∃ FL,aO F FL/\aO FL H/\DatVs K FL vs ds
 | [],[],_=>⟨F,cU F,s,.nil⟩
 | v::vs,d::ds,h=>by
  obtain ⟨FL,a,b,r⟩:=aMN s h.2
  rcases h.1 with q|⟨p,us,xs,rfl,rfl,h1,h2⟩
  ·exact ⟨FL,a,b,.cons (q.same a) r⟩
  ·refine ⟨fun x=>if x=p then some (.lst us) else FL x,fun x o z=>?_,fun x o z=>?_,?_⟩
   ·by_cases hx:x=p
    ·subst hx
     have:=s x o z
     rw[h1] at this;cases this
     exact if_pos rfl
    ·exact (if_neg hx).trans (a x o z)
   ·by_cases hx:x=p
    ·subst hx
     have z':=(if_pos rfl).symm.trans z
     rw[h1];exact z'
    ·exact b x o ((if_neg hx).symm.trans z)
   ·have sm:aO FL (fun x=>if x=p then some (.lst us) else FL x):=fun x o z=>by
     by_cases hx:x=p
     ·subst hx
      have:=b x o z
      rw[h1] at this;cases this
      exact if_pos rfl
     ·exact (if_neg hx).trans z
    exact .cons (.lst (SqL.of (if_pos rfl)) (h2.same fun x o z=>sm x o (a x o z))) (r.same sm)
end Fl
namespace Fl
open PySem L2 PyProof.Rows
def aLJ(P:Program)(w:World)(K:Frag)(mg:Str->Option Value)(base:Heap)(T:Hp)(S:ClSt)(fr:List Str)(k n:Nat)(Gm:List A->List PyData->R PyData):Prop:=
 ∀ (F0 F1:Hp) (caps:List A) (cvs:List V) (f:Addr) (cl:List (Str×Addr)) (doc pm ct:Value) (cc:Addr),aO T F0->AFs (gOf P w K mg base T) K mg F0 caps cvs->aO F0 F1->
  F1 f=some (FnO f (S.obj cl doc pm cc ct))->F1 cc=some (.cod S.qual)->CapAt F1 fr cl cvs->(∀ c∈aGZ fr cl,F0 c=none)->Beh P w K mg base T f F1 k n (Gm caps)
theorem AFs.data{g:Gb}{K:Frag}{mg:Str->Option Value}{F:Hp}:∀ {vs:List V} {ds:List PyData},DatVs K F vs ds->AFs g K mg F (ds.map .d) vs
 | _,_,.nil=>trivial
 | _,_,.cons h r=>⟨h,AFs.data r⟩
end Fl
namespace Fl
open PySem L2 PyProof.Rows
def vW(c:Ct)(F:Hp)(S:ClSt)(v:V):Prop:=∃ f cl doc pm cc ct,v=.ref f/\F f=some (FnO f (S.obj cl doc pm cc ct))/\F cc=some (.cod S.qual)/\ClOf c.cells S.scope cl
theorem vW.same{c:Ct}{F F':Hp}{S:ClSt}{v:V}(s:aO F F'):vW c F S v->vW c F' S v:=by
 rintro ⟨f,cl,doc,pm,cc,ct,h1,h2,h3,h4⟩
 exact ⟨f,cl,doc,pm,cc,ct,h1,s _ _ h2,s _ _ h3,h4⟩
noncomputable def aLK:Option (Option A)->Option A
 | some (some (.d x))=>some (.d x)
 | some (some (.x e))=>some (.x e)
 | some (some (.g k n G))=>some (.g k n G)
 | _=>none
noncomputable def aCE:List Nat->Sg->Option (List A)
 | [],_=>some []
 | j::js,ρ=>match aLK ρ[j]?,aCE js ρ with
  | some a,some as=>some (a::as)
  | _,_=>none
def aER(X:Cx)(T:Hp)(c:Ct)(js:List Nat)(ρ:Sg)(F:Hp)(a:A)(v:V):Prop:=AF c.g c.K c.mg F a v \/
 ∃ S fr sl k n Gm caps,a=.g k n (Gm caps)/\vW c F S v/\aLJ X.prog X.w X.K X.mg X.base T S fr k n Gm/\(∀ y,(y,NameKind.free)∈S.scope.names->y∈fr)/\(∀ y∈fr,(y,NameKind.free)∈S.scope.names)/\sl.map (fun j=>X.N[j]?)=fr.map some/\(∀ j∈sl,j∈js)/\aCE sl ρ=some caps
theorem aER.same{X:Cx}{T:Hp}{c:Ct}{js:List Nat}{ρ:Sg}{F F':Hp}{a:A}{v:V}(s:aO F F')(h:aER X T c js ρ F a v):aER X T c js ρ F' a v:=by
 rcases h with h|⟨S,fr,sl,k,n,Gm,caps,h1,h2,h3⟩
 · exact .inl (AF.same s h)
 · exact .inr ⟨S, fr, sl, k, n, Gm, caps, h1, h2.same s, h3⟩
end Fl
namespace Fl
open PySem L2 PyProof.Rows
section
variable{P:Program}{w:World}{K:Frag}{mg:Str->Option Value}{base:Heap}{T:Hp}
structure DefAtT(K:Frag)(mg:Str->Option Value)(base:Heap)(T:Hp)(qs:List (Pos×Str))(x:Str)(st:Stmt)(ps:List Str):Prop where
 ex:∃ f oc od kV doc pm an c0 ct osl P0,K.lookup f=some ⟨oc,od,.func (PySem.W.fnOf x x (cW st) (b5 st) (aL st) .none kV doc pm an (.ref c0) ct),osl⟩/\PySem.W.codeIn K (.ref c0) x=true/\PySem.W.keepIn K (.ref f)=true /\
  cS K (PySem.W.fnOf x x (cW st) (b5 st) (aL st) .none kV doc pm an (.ref c0) ct) ps []/\mg x=some (.ref f)/\Tb mg base c0 P0/\T P0=some (.tbl qs)
end
end Fl
namespace Fl
open PySem L2 PyProof.Rows
end Fl
namespace Zp
open PySem
section
variable{prog:Program}{w:World}{A:Around}{E:Value->Shared->Prop}{s:Shared}
theorem pX{it t:Addr}{i:Nat}{items}{x:Value}{Q:Value->Shared->Prop}(hit:s.heap.IsTupleIter it t i)
  (ht:s.heap.IsTuple t items) (hx:items[i]? = some x) (hQ:∀ h',h'.IsTupleIter it t (i+1)->Heap.SameBut it s.heap h'->Q x {s with heap:=h'}) :
  wpAny (model prog w) A (Builtin.SmallTypes.nextOf (.ref it)) Q E s:=by
 obtain ⟨o,ho,hc,hd⟩:=id hit
 obtain ⟨ol,hol,_,nl,hdl⟩:=ht
 unfold Builtin.SmallTypes.nextOf
 refine wpAny_bind (wpAny_callSpecial?_slot (name:=Str.ofString "__next__") hit.typeIs F.slot_tuple_iterator_next
  (wpAny_call_entry F.slot_tuple_iterator_next hit.typeIs F.entry_tuple_iterator_next ?_ (F.args_tuple_iterator_next_1 _)))
 show wpAny _ _ (field (.ref it) 0 >>= _) _ _ s
 refine wpAny_bind (wpAny_field ho hd (x:=.ref t) rfl ?_)
 show wpAny _ _ (if (Value.ref t == Value.none)=true then _ else _) _ _ s
 rw[if_neg (show ¬ ((Value.ref t == Value.none)=true) from Bool.false_ne_true)]
 show wpAny _ _ (field (.ref it) 1 >>= _) _ _ s
 refine wpAny_bind (wpAny_field ho hd (x:=.int i 0) rfl ?_)
 show wpAny _ _ (seqItems? (.ref t) >>= _) _ _ s
 refine wpAny_bind (wpAny_seqItems hol hdl ?_)
 simp only[Int.toNat_natCast,hx]
 refine wpAny_bind (wpAny_setField ho hd (by simp) (wpAny_pure ⟨x,rfl,wpAny_pure (hQ _ ?_ (Heap.SameBut.update ..))⟩))
 exact ⟨_,Heap.get?_update_self _ ho (Obj.isFreed_of_fields (Obj.data_mapFields hd _)),(Obj.cls_mapFields ..).trans hc,by
  rw[Obj.data_mapFields hd];simp[rawInt]⟩
theorem qS{it t:Addr}{i:Nat}{items}{Q:Value->Shared->Prop}(hh:A.handled=none)
  (hit:s.heap.IsTupleIter it t i) (ht:s.heap.IsTuple t items) (hx:items[i]? = none)
  (hE:∀ h' e,Heap.ExtBut it s.heap h'->(∃ o,h'.get? e=some o/\o.cls=.type "StopIteration")->E (.ref e) {s with heap:=h'}) :
  wpAny (model prog w) A (Builtin.SmallTypes.nextOf (.ref it)) Q E s:=by
 obtain ⟨o,ho,hc,hd⟩:=id hit
 obtain ⟨ol,hol,_,nl,hdl⟩:=ht
 unfold Builtin.SmallTypes.nextOf
 refine wpAny_bind (wpAny_callSpecial?_slot (name:=Str.ofString "__next__") hit.typeIs F.slot_tuple_iterator_next
  (wpAny_call_entry F.slot_tuple_iterator_next hit.typeIs F.entry_tuple_iterator_next ?_ (F.args_tuple_iterator_next_1 _)))
 show wpAny _ _ (field (.ref it) 0 >>= _) _ _ s
 refine wpAny_bind (wpAny_field ho hd (x:=.ref t) rfl ?_)
 show wpAny _ _ (if (Value.ref t == Value.none)=true then _ else _) _ _ s
 rw[if_neg (show ¬ ((Value.ref t == Value.none)=true) from Bool.false_ne_true)]
 show wpAny _ _ (field (.ref it) 1 >>= _) _ _ s
 refine wpAny_bind (wpAny_field ho hd (x:=.int i 0) rfl ?_)
 show wpAny _ _ (seqItems? (.ref t) >>= _) _ _ s
 refine wpAny_bind (wpAny_seqItems hol hdl ?_)
 simp only[Int.toNat_natCast,hx]
 refine wpAny_bind (wpAny_rule (wpAny_bind (wpAny_setField ho hd (by simp) ?_)))
 show wpAny _ _ (newExc (.type "StopIteration") [] >>= _) _ _ _
 refine wpAny_bind ?_
 simp only[newExc,newTuple]
 refine wpAny_bind (wpAny_newObj_type ?_ (by size_fits))
 refine wpAny_bind (m:=firstArgMember _ _) (wpAny_of_eq (a:=Value.none) (by first|rfl|(simp only[firstArgMember];rfl)) ?_)
 refine wpAny_newObj_type ?_ (by size_fits)
 simp only[raiseNew]
 refine wpAny_bind (wpAny_handled ?_)
 first|rw[show A.in1.handled=none from hh]|rw[hh]
 refine wpAny_bind (wpAny_pure (wpAny_throw ?_))
 exact hE _ _ (((Heap.SameBut.update ..).extBut.push _).push _) ⟨_,Heap.get?_push_size _ rfl,rfl⟩
end
theorem yC{prog:Program}{w:World}{A:Around}(hh:A.handled=none)(it l:Addr)(hne:l≠it)(items:Array Value) :
  Draws prog w A it [it,l] items.size (fun i v=>items[i]? = some v) (fun i h=>h.IsTupleIter it l i/\h.IsTuple l items) where
 live:=fun _ _ st=>let ⟨o,ho,_⟩:=st.1;⟨o,ho⟩
 frame:=fun _ _ _ st hk=>⟨let ⟨o,ho,r⟩:=st.1;⟨o,hk it (by simp) o ho,r⟩,let ⟨o,ho,r⟩:=st.2;⟨o,hk l (by simp) o ho,r⟩⟩
 item:=fun i s Q E hi st hQ=>by
  refine pX st.1 st.2 (x:=items[i]) (by simp[hi]) fun h' hit' hs'=>?_
  exact hQ _ h' s.toks (by simp[hi]) ⟨hit',st.2.extBut hs'.extBut hne⟩ hs'
 done:=fun s Q E st hE=>qS hh st.1 st.2 (by simp) hE
structure Apart(z TI TO i1 i2:Addr)(f1 f2:List Addr):Prop where
 TIz:TI≠z
 TOz:TO≠z
 i1z:i1≠z
 i2z:i2≠z
 TITO:TI≠TO
 TIi1:TI≠i1
 TIi2:TI≠i2
 TOi1:TO≠i1
 TOi2:TO≠i2
 i12:i1≠i2
 z1:z∉f1
 z2:z∉f2
 t1:TO∉f1
 t2:TO∉f2
 i1f2:i1∉f2
 i2f1:i2∉f1
section
variable{prog:Program}{w:World}{A:Around}{E:Value->Shared->Prop}{s:Shared}
abbrev k9(h:Heap)(z TI TO:Addr)(f0 f1:Value):Prop:=h.get? z=some {cls:=.type "zip",dict:=none,data:=.fields #[f0,f1,.bool false,.ref TI,.ref TO],slots:=#[]}
theorem aES{M:Model}{A:Around}{E:Value->Shared->Prop}{s:Shared}{a:Addr}{Q:Option Obj->Shared->Prop}(h:Q (s.heap.get? a) s):wpAny M A (loadIfAlive a) Q E s:=fun Γ p _=>by
 unfold loadIfAlive
 rw[Sem.wp_loadIfAlive]
 exact h
theorem uI{z TI TO:Addr}{f0:Value}{bb:Bool}{Q:Bool->Shared->Prop}(hz:k9 s.heap z TI TO f0 (.bool bb))(hf:f0=.none\/∃ T:Addr,f0=rawInt T/\s.heap.get? T=none)(h:Q true s):wpAny (model prog w) A (Builtin.SmallTypes.ownedTupleIsFree (.ref z)) Q E s:=by
 unfold Builtin.SmallTypes.ownedTupleIsFree
 refine wpAny_bind (wpAny_field hz rfl (x:=f0) rfl ?_)
 rcases hf with rfl|⟨T,rfl,hT⟩
 ·exact wpAny_pure h
 ·show wpAny _ _ (loadIfAlive ((T:Int)).toNat >>= _) _ _ s
  refine wpAny_bind (aES ?_)
  rw[show ((T:Int)).toNat=T by omega,hT]
  exact wpAny_pure h
theorem aCF{z TI TO i1 i2:Addr}{f1 f2:List Addr}{n1 n2 i:Nat}{P1 P2:Nat->Value->Prop}{S1 S2:Nat->Heap->Prop}{a b f0:Value}{bb:Bool}{Q:Value->Shared->Prop}(D:Apart z TI TO i1 i2 f1 f2)
  (D1:Draws prog w A i1 f1 n1 P1 S1) (D2:Draws prog w A i2 f2 n2 P2 S2)
  (hz:k9 s.heap z TI TO f0 (.bool bb)) (hfr:f0=.none\/∃ T:Addr,f0=rawInt T/\s.heap.get? T=none) (hTI:IsPair s.heap TI (.ref i1) (.ref i2)) (hTO:IsPair s.heap TO a b) (h1:S1 i s.heap) (h2:S2 i s.heap) (l1:i < n1) (l2:i < n2)
  (hQ:∀ x y h' tk,P1 i x->P2 i y->IsZip h' z TI TO (rawInt s.heap.objs.size)->IsPair h' TO x y->S1 (i+1) h'->S2 (i+1) h'->IsPair h' s.heap.objs.size x y->h'.objs.size=s.heap.objs.size+1->
   (∀ c o,c≠z->c≠TO->c≠i1->c≠i2->s.heap.get? c=some o->h'.get? c=some o)->Q (.ref s.heap.objs.size) {s with heap:=h',toks:=tk}) :
  wpAny (model prog w) A (Builtin.«zip.__next__» ⟨[.ref z],[]⟩) (fun fin s'=>∃ v,fin=.done (.ret v)/\Q v s') E s:=by
 show wpAny _ _ (field (.ref z) 2 >>= _) _ _ _
 refine wpAny_bind (wpAny_field hz rfl (x:=.bool false) rfl ?_)
 show wpAny _ _ (field (.ref z) 3 >>= _) _ _ _
 refine wpAny_bind (wpAny_field hz rfl (x:=.ref TI) rfl ?_)
 refine wpAny_bind (wpAny_seqItems hTI rfl ?_)
 show wpAny _ _ (Builtin.SmallTypes.ownedTupleIsFree (.ref z) >>= _) _ _ _
 refine wpAny_bind (uI hz hfr ?_)
 simp only[if_true]
 refine wpAny_bind (wpAny_rule ?_)
 refine wpAny_bind (wpAny_field hz rfl (x:=.ref TO) rfl ?_)
 refine wpAny_bind (wpAny_setField_rec hz (by simp) fun h₁ hz₁ hs₁=>?_)
 replace hz₁:k9 h₁ z TI TO .ellipsis (.bool bb):=hz₁
 refine wpAny_bind ?_
 simp only[List.zipIdx_cons,List.zipIdx_nil,List.forIn_cons,List.forIn_nil]
 have fr:∀ {f:List Addr} {c:Addr} {g g':Heap},Heap.SameBut c g g'->c∉f->∀ b∈f,∀ o,g.get? b=some o->g'.get? b=some o:=fun hs hc b hb o e=>hs.extBut _ _ (fun z=>hc (z▸hb)) e
 refine wpAny_bind (wpAny_bind (wpAny_onRaise ?_))
 show wpAny _ _ (Builtin.SmallTypes.nextOf (.ref i1) >>= _) _ _ _
 refine wpAny_bind (D1.item i {s with heap:=h₁} _ _ l1 (D1.frame _ _ _ h1 (fr hs₁ D.z1)) fun x h₂ tk1 px h1₂ hs₂=>wpAny_pure ?_)
 have hTO₂:IsPair h₂ TO a b:=hs₂.extBut _ _ D.TOi1 (hs₁.extBut _ _ D.TOz hTO)
 refine wpAny_bind (wpAny_seqItems hTO₂ rfl ?_)
 refine wpAny_bind (wpAny_updateSeq_pair hTO₂ fun h₃ hTO₃ hs₃=>?_)
 replace hTO₃:IsPair h₃ TO x b:=hTO₃
 refine wpAny_bind (wpAny_letGo (wpAny_pure ?_))
 refine wpAny_bind (wpAny_bind (wpAny_onRaise ?_))
 show wpAny _ _ (Builtin.SmallTypes.nextOf (.ref i2) >>= _) _ _ _
 refine wpAny_bind (D2.item i {s with heap:=h₃,toks:=tk1} _ _ l2 (D2.frame _ _ _ (D2.frame _ _ _ (D2.frame _ _ _ h2 (fr hs₁ D.z2)) (fr hs₂ D.i1f2)) (fr hs₃ D.t2)) fun y h₄ tk2 py h2₄ hs₄=>wpAny_pure ?_)
 have hs₄:Heap.SameBut i2 h₃ h₄:=hs₄
 have hs₂:Heap.SameBut i1 h₁ h₂:=hs₂
 have hTO₄:IsPair h₄ TO x b:=hs₄.extBut _ _ D.TOi2 hTO₃
 refine wpAny_bind (wpAny_seqItems hTO₄ rfl ?_)
 refine wpAny_bind (wpAny_updateSeq_pair hTO₄ fun h₅ hTO₅ hs₅=>?_)
 replace hTO₅:IsPair h₅ TO x y:=hTO₅
 refine wpAny_bind (wpAny_letGo (wpAny_pure (wpAny_pure ?_)))
 refine wpAny_bind (wpAny_seqItems hTO₅ rfl ?_)
 refine wpAny_bind (wpAny_newTuple ?_)
 have hsz:h₅.objs.size=s.heap.objs.size:=by rw[hs₅.1];show h₄.objs.size=_;rw[hs₄.1,hs₃.1];show h₂.objs.size=_;rw[hs₂.1,hs₁.1]
 have hs₃:Heap.SameBut TO h₂ h₃:=hs₃
 have hs₅:Heap.SameBut TO h₄ h₅:=hs₅
 have hz₅:k9 h₅ z TI TO .ellipsis (.bool bb):=hs₅.extBut _ _ D.TOz.symm (hs₄.extBut _ _ D.i2z.symm (hs₃.extBut _ _ D.TOz.symm (hs₂.extBut _ _ D.i1z.symm hz₁)))
 have hk₅:∀ c o,c≠z->c≠TO->c≠i1->c≠i2->s.heap.get? c=some o->h₅.get? c=some o:=fun c o c1 c2 c3 c4 e=>
  hs₅.extBut _ _ c2 (hs₄.extBut _ _ c4 (hs₃.extBut _ _ c2 (hs₂.extBut _ _ c3 (hs₁.extBut _ _ c1 e))))
 have h1₅:S1 (i+1) h₅:=D1.frame _ _ _ (D1.frame _ _ _ (D1.frame _ _ _ h1₂ (fr hs₃ D.t1)) (fr hs₄ D.i2f1)) (fr hs₅ D.t1)
 have h2₅:S2 (i+1) h₅:=D2.frame _ _ _ h2₄ (fr hs₅ D.t2)
 have hzlt:z < h₅.objs.size:=Heap.lt_size hz₅
 show wpAny _ _ (Builtin.SmallTypes.ownedTupleHandOut (.ref z) (.ref h₅.objs.size) >>= _) _ _ _
 refine wpAny_bind ?_
 unfold Builtin.SmallTypes.ownedTupleHandOut
 have hz₆:k9 (h₅.push {cls:=.type "tuple",data:=.seq #[x,y]}) z TI TO .ellipsis (.bool bb):=Heap.get?_push_of_some _ hz₅
 refine wpAny_bind (wpAny_setField_rec hz₆ (by simp) fun h₇ hz₇ hs₇=>?_)
 replace hz₇:k9 h₇ z TI TO (rawInt h₅.objs.size) (.bool bb):=hz₇
 refine wpAny_setField_rec hz₇ (by simp) fun h₈ hz₈ hs₈=>?_
 replace hz₈:IsZip h₈ z TI TO (rawInt h₅.objs.size):=hz₈
 have up:∀ c o,c≠z->h₅.get? c=some o->h₈.get? c=some o:=fun c o c1 e=>hs₈.extBut _ _ c1 (hs₇.extBut _ _ c1 (Heap.get?_push_of_some _ e))
 have hT₈:IsPair h₈ h₅.objs.size x y:=hs₈.extBut _ _ (Nat.ne_of_gt hzlt) (hs₇.extBut _ _ (Nat.ne_of_gt hzlt) (Heap.get?_push_size _ rfl))
 have hz8:h₈.objs.size=h₅.objs.size+1:=by rw[hs₈.1,hs₇.1,Heap.size_push]
 rw[hsz] at hz₈ hT₈ hz8
 refine wpAny_pure ⟨_,rfl,?_⟩
 show Q (.ref h₅.objs.size) _
 rw[hsz]
 exact hQ x y h₈ tk2 px py hz₈ (up _ _ D.TOz hTO₅) (D1.frame _ _ _ h1₅ fun b hb o e=>up b o (fun q=>D.z1 (q▸hb)) e) (D2.frame _ _ _ h2₅ fun b hb o e=>up b o (fun q=>D.z2 (q▸hb)) e) hT₈ hz8 fun c o c1 c2 c3 c4 e=>up c o c1 (hk₅ c o c1 c2 c3 c4 e)
theorem aET{z TI TO i1 i2:Addr}{f1 f2:List Addr}{n1 n2 i:Nat}{P1 P2:Nat->Value->Prop}{S1 S2:Nat->Heap->Prop}{a b f0:Value}{bb:Bool}{Q:Fin->Shared->Prop}(D:Apart z TI TO i1 i2 f1 f2)
  (D1:Draws prog w A i1 f1 n1 P1 S1) (D2:Draws prog w A i2 f2 n2 P2 S2)
  (hz:k9 s.heap z TI TO f0 (.bool bb)) (hfr:f0=.none\/∃ T:Addr,f0=rawInt T/\s.heap.get? T=none) (hTI:IsPair s.heap TI (.ref i1) (.ref i2)) (hTO:IsPair s.heap TO a b) (h1:S1 i s.heap) (h2:S2 i s.heap) (hend:i=n1\/(i < n1/\i=n2))
  (hE:∀ h' tk e,(∀ c o,c≠z->c≠TO->c≠i1->c≠i2->s.heap.get? c=some o->h'.get? c=some o)->(∃ o,h'.get? e=some o/\o.cls=.type "StopIteration")->E (.ref e) {s with heap:=h',toks:=tk}) :
  wpAny (model prog w) A (Builtin.«zip.__next__» ⟨[.ref z],[]⟩) Q E s:=by
 show wpAny _ _ (field (.ref z) 2 >>= _) _ _ _
 refine wpAny_bind (wpAny_field hz rfl (x:=.bool false) rfl ?_)
 show wpAny _ _ (field (.ref z) 3 >>= _) _ _ _
 refine wpAny_bind (wpAny_field hz rfl (x:=.ref TI) rfl ?_)
 refine wpAny_bind (wpAny_seqItems hTI rfl ?_)
 show wpAny _ _ (Builtin.SmallTypes.ownedTupleIsFree (.ref z) >>= _) _ _ _
 refine wpAny_bind (uI hz hfr ?_)
 simp only[if_true]
 refine wpAny_bind (wpAny_rule ?_)
 refine wpAny_bind (wpAny_field hz rfl (x:=.ref TO) rfl ?_)
 refine wpAny_bind (wpAny_setField_rec hz (by simp) fun h₁ hz₁ hs₁=>?_)
 replace hz₁:k9 h₁ z TI TO .ellipsis (.bool bb):=hz₁
 refine wpAny_bind ?_
 simp only[List.zipIdx_cons,List.zipIdx_nil,List.forIn_cons,List.forIn_nil]
 have fr:∀ {f:List Addr} {c:Addr} {g g':Heap},Heap.SameBut c g g'->c∉f->∀ b∈f,∀ o,g.get? b=some o->g'.get? b=some o:=fun hs hc b hb o e=>hs.extBut _ _ (fun z=>hc (z▸hb)) e
 refine wpAny_bind (wpAny_bind (wpAny_onRaise ?_))
 show wpAny _ _ (Builtin.SmallTypes.nextOf (.ref i1) >>= _) _ _ _
 rcases hend with rfl|⟨l1,rfl⟩
 ·refine wpAny_bind (D1.done {s with heap:=h₁} _ _ (D1.frame _ _ _ h1 (fr hs₁ D.z1)) fun h₂ e hs₂ he=>?_)
  obtain ⟨oe,hoe,hce⟩:=he
  have hz₂:k9 h₂ z TI TO .ellipsis (.bool bb):=hs₂ _ _ D.i1z.symm hz₁
  have hez:e≠z:=fun x=>by subst x;rw[hz₂] at hoe;cases hoe;simp at hce
  refine wpAny_setField_rec hz₂ (by simp) fun h₃ _ hs₃=>hE h₃ s.toks e (fun c o c1 _ c3 _ x=>hs₃.extBut _ _ c1 (hs₂ _ _ c3 (hs₁.extBut _ _ c1 x))) ⟨oe,hs₃.extBut _ _ hez hoe,hce⟩
 ·refine wpAny_bind (D1.item i {s with heap:=h₁} _ _ l1 (D1.frame _ _ _ h1 (fr hs₁ D.z1)) fun x h₂ tk1 px h1₂ hs₂=>wpAny_pure ?_)
  have hs₂:Heap.SameBut i1 h₁ h₂:=hs₂
  have hTO₂:IsPair h₂ TO a b:=hs₂.extBut _ _ D.TOi1 (hs₁.extBut _ _ D.TOz hTO)
  refine wpAny_bind (wpAny_seqItems hTO₂ rfl ?_)
  refine wpAny_bind (wpAny_updateSeq_pair hTO₂ fun h₃ hTO₃ hs₃=>?_)
  have hs₃:Heap.SameBut TO h₂ h₃:=hs₃
  refine wpAny_bind (wpAny_letGo (wpAny_pure ?_))
  refine wpAny_bind (wpAny_bind (wpAny_onRaise ?_))
  show wpAny _ _ (Builtin.SmallTypes.nextOf (.ref i2) >>= _) _ _ _
  refine wpAny_bind (D2.done {s with heap:=h₃,toks:=tk1} _ _ (D2.frame _ _ _ (D2.frame _ _ _ (D2.frame _ _ _ h2 (fr hs₁ D.z2)) (fr hs₂ D.i1f2)) (fr hs₃ D.t2)) fun h₄ e hs₄ he=>?_)
  have hs₄:Heap.ExtBut i2 h₃ h₄:=hs₄
  obtain ⟨oe,hoe,hce⟩:=he
  have hz₄:k9 h₄ z TI TO .ellipsis (.bool bb):=hs₄ _ _ D.i2z.symm (hs₃.extBut _ _ D.TOz.symm (hs₂.extBut _ _ D.i1z.symm hz₁))
  have hez:e≠z:=fun x=>by subst x;rw[hz₄] at hoe;cases hoe;simp at hce
  refine wpAny_setField_rec hz₄ (by simp) fun h₅ _ hs₅=>hE h₅ tk1 e (fun c o c1 c2 c3 c4 x=>hs₅.extBut _ _ c1 (hs₄ _ _ c4 (hs₃.extBut _ _ c2 (hs₂.extBut _ _ c3 (hs₁.extBut _ _ c1 x))))) ⟨oe,hs₅.extBut _ _ hez hoe,hce⟩
theorem aEU{z TI TO i1 i2:Addr}{f1 f2:List Addr}{n1 n2 i:Nat}{P1 P2:Nat->Value->Prop}{S1 S2:Nat->Heap->Prop}{a b:Value}{Q:Value->Shared->Prop}(D:Apart z TI TO i1 i2 f1 f2)
 (D1:Draws prog w A i1 f1 n1 P1 S1) (D2:Draws prog w A i2 f2 n2 P2 S2)
 (hz:IsZip s.heap z TI TO .none) (hTI:IsPair s.heap TI (.ref i1) (.ref i2)) (hTO:IsPair s.heap TO a b) (h1:S1 i s.heap) (h2:S2 i s.heap) (l1:i < n1) (l2:i < n2)
 (hQ:∀ x y h' tk,P1 i x->P2 i y->IsZip h' z TI TO (rawInt s.heap.objs.size)->IsPair h' TO x y->S1 (i+1) h'->S2 (i+1) h'->IsPair h' s.heap.objs.size x y->h'.objs.size=s.heap.objs.size+1->
  (∀ c o,c≠z->c≠TO->c≠i1->c≠i2->s.heap.get? c=some o->h'.get? c=some o)->Q (.ref s.heap.objs.size) {s with heap:=h',toks:=tk}) :
 wpAny (model prog w) A (Builtin.«zip.__next__» ⟨[.ref z],[]⟩) (fun fin s'=>∃ v,fin=.done (.ret v)/\Q v s') E s:=aCF D D1 D2 hz (.inl rfl) hTI hTO h1 h2 l1 l2 hQ
theorem aHG{z TI TO i1 i2:Addr}{f1 f2:List Addr}{n1 n2 i:Nat}{P1 P2:Nat->Value->Prop}{S1 S2:Nat->Heap->Prop}{a b:Value}{Q:Fin->Shared->Prop}(D:Apart z TI TO i1 i2 f1 f2)
 (D1:Draws prog w A i1 f1 n1 P1 S1) (D2:Draws prog w A i2 f2 n2 P2 S2)
 (hz:IsZip s.heap z TI TO .none) (hTI:IsPair s.heap TI (.ref i1) (.ref i2)) (hTO:IsPair s.heap TO a b) (h1:S1 i s.heap) (h2:S2 i s.heap) (hend:i=n1\/(i < n1/\i=n2))
 (hE:∀ h' tk e,(∀ c o,c≠z->c≠TO->c≠i1->c≠i2->s.heap.get? c=some o->h'.get? c=some o)->(∃ o,h'.get? e=some o/\o.cls=.type "StopIteration")->E (.ref e) {s with heap:=h',toks:=tk}) :
 wpAny (model prog w) A (Builtin.«zip.__next__» ⟨[.ref z],[]⟩) Q E s:=aET D D1 D2 hz (.inl rfl) hTI hTO h1 h2 hend hE
theorem aCG{z TI TO i1 i2:Addr}{f1 f2:List Addr}{n1 n2 i:Nat}{P1 P2:Nat->Value->Prop}{S1 S2:Nat->Heap->Prop}{a b:Value}{Q:Option Value->Shared->Prop}(D:Apart z TI TO i1 i2 f1 f2)
  (D1:Draws prog w A.in1 i1 f1 n1 P1 S1) (D2:Draws prog w A.in1 i2 f2 n2 P2 S2)
  (hz:IsZip s.heap z TI TO .none) (hTI:IsPair s.heap TI (.ref i1) (.ref i2)) (hTO:IsPair s.heap TO a b) (h1:S1 i s.heap) (h2:S2 i s.heap) (l1:i < n1) (l2:i < n2)
  (hQ:∀ x y h' tk,P1 i x->P2 i y->IsZip h' z TI TO (rawInt s.heap.objs.size)->IsPair h' TO x y->S1 (i+1) h'->S2 (i+1) h'->IsPair h' s.heap.objs.size x y->h'.objs.size=s.heap.objs.size+1->
   (∀ c o,c≠z->c≠TO->c≠i1->c≠i2->s.heap.get? c=some o->h'.get? c=some o)->Q (some (.ref s.heap.objs.size)) {s with heap:=h',toks:=tk}) :
  wpAny (model prog w) A (pyNext (.ref z)) Q E s:=by
 have hT:s.TypeIs (.ref z) "zip":=⟨_,hz,rfl⟩
 unfold pyNext
 exact wpAny_bind (wpAny_attempt (wpAny_callSpecial?_slot (name:=Str.ofString "__next__") hT F.slot_zip_next
  (wpAny_call_entry F.slot_zip_next hT F.entry_zip_next
   (aEU D D1 D2 hz hTI hTO h1 h2 l1 l2 fun x y h' tk p1 p2 a1 a2 a3 a4 a5 a6 a7=>wpAny_pure (hQ x y h' tk p1 p2 a1 a2 a3 a4 a5 a6 a7)) (F.args_zip_next_1 _))))
theorem aEV{z TI TO i1 i2:Addr}{f1 f2:List Addr}{n1 n2 i:Nat}{P1 P2:Nat->Value->Prop}{S1 S2:Nat->Heap->Prop}{a b:Value}{Q:Option Value->Shared->Prop}(D:Apart z TI TO i1 i2 f1 f2)
  (D1:Draws prog w A.in1 i1 f1 n1 P1 S1) (D2:Draws prog w A.in1 i2 f2 n2 P2 S2)
  (hz:IsZip s.heap z TI TO .none) (hTI:IsPair s.heap TI (.ref i1) (.ref i2)) (hTO:IsPair s.heap TO a b) (h1:S1 i s.heap) (h2:S2 i s.heap) (hend:i=n1\/(i < n1/\i=n2))
  (hQ:∀ h' tk,(∀ c o,c≠z->c≠TO->c≠i1->c≠i2->s.heap.get? c=some o->h'.get? c=some o)->Q none {s with heap:=h',toks:=tk}):wpAny (model prog w) A (pyNext (.ref z)) Q E s:=by
 have hT:s.TypeIs (.ref z) "zip":=⟨_,hz,rfl⟩
 unfold pyNext
 refine wpAny_bind (wpAny_attempt (wpAny_callSpecial?_slot (name:=Str.ofString "__next__") hT F.slot_zip_next
  (wpAny_call_entry F.slot_zip_next hT F.entry_zip_next (aHG D D1 D2 hz hTI hTO h1 h2 hend fun h' tk e hk he=>?_) (F.args_zip_next_1 _))))
 obtain ⟨o,ho,hc⟩:=he
 refine wpAny_bind (wpAny_isInstance (T:="StopIteration") (b:=true) ⟨o,ho,hc⟩ isSubtype_stop ?_)
 exact wpAny_pure (hQ _ _ hk)
end
def o3(v:Value)(o:Obj)(h:Heap):Prop:=∀ (prog:Program) (w:World) (A:Around) (E:Value->Shared->Prop) (s:Shared) (Q:Value->Shared->Prop),s.heap=h->Q (.ref h.objs.size) {s with heap:=h.push o}->wpAny (model prog w) A (pyIter v) Q E s
noncomputable abbrev H2(h:Heap)(o1 o2:Obj):Heap:=(h.push o1).push o2
noncomputable abbrev H3(h:Heap)(o1 o2:Obj):Heap:=(H2 h o1 o2).push {cls:=.type "tuple",data:=.seq #[.ref h.objs.size,.ref (h.push o1).objs.size]}
noncomputable abbrev H4(h:Heap)(o1 o2:Obj):Heap:=(H3 h o1 o2).push {cls:=.type "tuple",data:=.seq #[.none,.none]}
noncomputable abbrev H5(h:Heap)(o1 o2:Obj):Heap:=(H4 h o1 o2).push {cls:=.type "zip",data:=.fields #[.none,.bool false,.bool false,.ref (H2 h o1 o2).objs.size,.ref (H3 h o1 o2).objs.size]}
theorem aCH(v1 v2:Value)(o1 o2:Obj) :
  Meets (Builtin.«zip.__new__» ⟨[.type "zip",v1,v2],[]⟩) (fun _ R s=>o3 v1 o1 s.heap/\o3 v2 o2 (s.heap.push o1) /\
   R (.ok (.ret (.ref (H4 s.heap o1 o2).objs.size))) {s with heap:=H5 s.heap o1 o2}):=
 .of_wp fun prog w A R s h=>by
  obtain ⟨hp,g,d,tk,os⟩:=s;obtain ⟨hl1,hl2,h⟩:=h
  have hsub:=sub_zip
  have p1:∀ {A:Around} {E:Value->Shared->Prop} {Q:Value->Shared->Prop},Q (.ref hp.objs.size) ⟨hp.push o1,g,d,tk,os⟩->wpAny (model prog w) A (pyIter v1) Q E ⟨hp,g,d,tk,os⟩:=fun hq=>hl1 prog w _ _ ⟨hp,g,d,tk,os⟩ _ rfl hq
  have p2:∀ {A:Around} {E:Value->Shared->Prop} {Q:Value->Shared->Prop},Q (.ref (hp.push o1).objs.size) ⟨(hp.push o1).push o2,g,d,tk,os⟩->wpAny (model prog w) A (pyIter v2) Q E ⟨hp.push o1,g,d,tk,os⟩:=fun hq=>hl2 prog w _ _ ⟨hp.push o1,g,d,tk,os⟩ _ rfl hq
  wp_walk using p1,p2
  exact ⟨_,rfl,h⟩
end Zp
namespace Zp
open PySem
section
variable{prog:Program}{w:World}{A:Around}{E:Value->Shared->Prop}{s:Shared}
theorem aEW{v1 v2:Value}{o1 o2:Obj}{Q:Value->Shared->Prop}(h1:o3 v1 o1 s.heap)(h2:o3 v2 o2 (s.heap.push o1))(f1:o1.isFreed=false)(f2:o2.isFreed=false)
  (h:∀ h',IsZip h' (s.heap.objs.size+4) (s.heap.objs.size+2) (s.heap.objs.size+3) .none->IsPair h' (s.heap.objs.size+2) (.ref s.heap.objs.size) (.ref (s.heap.objs.size+1))->
   IsPair h' (s.heap.objs.size+3) .none .none->h'.get? s.heap.objs.size=some o1->h'.get? (s.heap.objs.size+1)=some o2->h'.objs.size=s.heap.objs.size+5->
   (∀ c o,s.heap.get? c=some o->h'.get? c=some o)->Q (.ref (s.heap.objs.size+4)) {s with heap:=h'}) :
  wpAny (model prog w) A (call (.type "zip") [v1,v2]) Q E s:=by
 refine callType_new F.called_zip (by decide) (F.typeCall_zip_2 _ _) (F.newCall_zip_2 _ _) (fun obj=>F.args_object_init_3 obj _ _) F.entry_zip_new
  (aCH v1 v2 o1 o2) ⟨h1,h2,?_⟩
 have z1:(s.heap.push o1).objs.size=s.heap.objs.size+1:=Heap.size_push ..
 have z2:(H2 s.heap o1 o2).objs.size=s.heap.objs.size+2:=by rw[Heap.size_push,z1]
 have z3:(H3 s.heap o1 o2).objs.size=s.heap.objs.size+3:=by rw[Heap.size_push,z2]
 have z4:(H4 s.heap o1 o2).objs.size=s.heap.objs.size+4:=by rw[Heap.size_push,z3]
 have z5:(H5 s.heap o1 o2).objs.size=s.heap.objs.size+5:=by rw[Heap.size_push,z4]
 have g5:(H5 s.heap o1 o2).get? (H4 s.heap o1 o2).objs.size=some _:=Heap.get?_push_size _ rfl
 have g4:(H5 s.heap o1 o2).get? (H3 s.heap o1 o2).objs.size=some _:=Heap.get?_push_of_some _ (Heap.get?_push_size _ rfl)
 have g3:(H5 s.heap o1 o2).get? (H2 s.heap o1 o2).objs.size=some _:=Heap.get?_push_of_some _ (Heap.get?_push_of_some _ (Heap.get?_push_size _ rfl))
 have g2:(H5 s.heap o1 o2).get? (s.heap.push o1).objs.size=some o2:=Heap.get?_push_of_some _ (Heap.get?_push_of_some _ (Heap.get?_push_of_some _ (Heap.get?_push_size _ f2)))
 have g1:(H5 s.heap o1 o2).get? s.heap.objs.size=some o1:=Heap.get?_push_of_some _ (Heap.get?_push_of_some _ (Heap.get?_push_of_some _ (Heap.get?_push_of_some _ (Heap.get?_push_size _ f1))))
 show _/\_
 rw[z2,z3,z4] at g5
 rw[z1,z2] at g3
 rw[z3] at g4
 rw[z1] at g2
 rw[z4]
 exact ⟨⟨_,g5,rfl⟩,h _ g5 g3 g4 g1 g2 z5 fun c o x=>
  Heap.get?_push_of_some _ (Heap.get?_push_of_some _ (Heap.get?_push_of_some _ (Heap.get?_push_of_some _ (Heap.get?_push_of_some _ x))))⟩
end
end Zp
namespace L2
open PySem PySem.Spec PyProof.Rows
abbrev Col:=Hp->List V->Prop
structure ColOk(P:Program)(w:World)(K:Frag)(C:Col)(it:Addr)(tn:Nat->Heap->Prop):Prop where
 obj:∀ i h,tn i h->∃ o,h.get? it=some o/\∀ v,o.data≠.cell v
 keep:∀ i h h',tn i h->(∀ o,h.get? it=some o->h'.get? it=some o)->tn i h'
 one:∀ (X:Cx),X.prog=P->X.w=w->X.K=K->∀ pins s σ H xs ys,Inv X pins σ H s->C H xs->C H ys->xs=ys
 draw:∀ (X:Cx),X.prog=P->X.w=w->X.K=K->∀ (i:Nat) (pins:List (Addr×Obj)) (s:Shared) (σ:St) (H:Hp) (xs:List V) (A:Around),Inv X pins σ H s->hU X pins H it->tn i s.heap->C H xs->A.handled=none->
  ∃ fp Pv St,Draws P w A it fp xs.length Pv St/\St i s.heap/\(∀ j h,St j h->tn j h)/\(∀ j v,Pv j v->∃ x,xs[j]? = some x/\bH x v)/\∀ b,hU X pins H b->b≠it->b∉fp
theorem y4{X:Cx}{pins:List (Addr×Obj)}{σ:St}{H:Hp}{s:Shared}{b a:Addr}{o:Obj}(I:Inv X pins σ H s)(hf:hU X pins H b)(e:X.base.get? a=some o):b≠a:=by
 obtain ⟨_,_,_,h4,_⟩:=hf
 intro z
 rcases h4 with z2|z2
 ·exact I.ok.noex a o e (z▸z2)
 ·have h5:=Heap.lt_size e
  have h6:=I.ok.bsz
  rw[z] at z2
  exact absurd (Nat.lt_of_lt_of_le h5 (Nat.le_trans h6 z2)) (Nat.lt_irrefl _)
theorem aCI{X:Cx}{pins:List (Addr×Obj)}{σ:St}{H:Hp}{s:Shared}{b a:Addr}{xs:List V}(I:Inv X pins σ H s)(hf:hU X pins H b)(h:SqL X.K H a xs):b≠a:=by
 rcases h with (h|⟨o,h⟩)|⟨o,vs,n,h,_⟩
 · intro z; rw [<- z, hf.1] at h; cases h
 · intro z; rw [<- z, hf.1] at h; cases h
 · exact y4 I hf (I.ok.mod.kin _ _ h)
theorem aCJ{X:Cx}{pins:List (Addr×Obj)}{σ:St}{H:Hp}{s:Shared}{b a:Addr}{xs:List V}(I:Inv X pins σ H s)(hf:hU X pins H b)(h:SqT X.K H a xs):b≠a:=by
 rcases h with (h|⟨o,h⟩)|⟨o,vs,n,h,_⟩
 · intro z; rw [<- z, hf.1] at h; cases h
 · intro z; rw [<- z, hf.1] at h; cases h
 · exact y4 I hf (I.ok.mod.kin _ _ h)
theorem aEX{P:Program}{w:World}{K:Frag}(a it:Addr):ColOk P w K (fun H xs=>SqL K H a xs) it (fun i h=>h.IsListIter it a i) where
 obj:=fun i h ⟨o,e,c,d⟩=>⟨o,e,fun v z=>by rw[d] at z;cases z⟩
 keep:=fun i h h' st k=>st.at fun o e=>k o e
 one:=by
  intro X hP hw hK pins s σ H xs ys I h1 h2
  subst hK
  exact I.list_inj h1 h2
 draw:=by
  intro X hP hw hK i pins s σ H xs A I hf st hx hh
  subst hP hw hK
  obtain ⟨its,rv,p,hz⟩:=I.list hx
  have hne:=aCI I hf hx
  refine ⟨[it,a],(fun i v=>its.toArray[i]? = some v),(fun i h=>h.IsListIter it a i/\h.IsList a its.toArray),by rw[show xs.length=its.toArray.size by rw[rv.length];simp];exact Draws.list hh it a (Ne.symm hne) its.toArray,⟨st,p.isList⟩,fun j h z=>z.1,fun j v e=>?_,fun b hb nb hm=>?_⟩
  ·have e':its[j]? = some v:=by simpa using e
   have hj:j < xs.length:=by rw[rv.length];exact (List.getElem?_eq_some_iff.mp e').1
   obtain ⟨u,hu,ru⟩:=rv.get (List.getElem?_eq_getElem hj)
   rw[e'] at hu;cases hu
   exact ⟨_,List.getElem?_eq_getElem hj,ru⟩
  ·rcases List.mem_cons.mp hm with z|z
   · exact nb z
   · exact aCI I hb hx (by simpa using z)
theorem aCK{P:Program}{w:World}{K:Frag}(a it:Addr):ColOk P w K (fun H xs=>SqT K H a xs) it (fun i h=>h.IsTupleIter it a i) where
 obj:=fun i h ⟨o,e,c,d⟩=>⟨o,e,fun v z=>by rw[d] at z;cases z⟩
 keep:=fun i h h' ⟨o,e,r⟩ k=>⟨o,k o e,r⟩
 one:=by
  intro X hP hw hK pins s σ H xs ys I h1 h2
  subst hK
  exact I.tuple_inj h1 h2
 draw:=by
  intro X hP hw hK i pins s σ H xs A I hf st hx hh
  subst hP hw hK
  obtain ⟨its,rv,p,hz⟩:=I.tuple hx
  have hne:=aCJ I hf hx
  refine ⟨[it,a],(fun i v=>its.toArray[i]? = some v),(fun i h=>h.IsTupleIter it a i/\h.IsTuple a its.toArray),by rw[show xs.length=its.toArray.size by rw[rv.length];simp];exact Zp.yC hh it a (Ne.symm hne) its.toArray,⟨st,p⟩,fun j h z=>z.1,fun j v e=>?_,fun b hb nb hm=>?_⟩
  ·have e':its[j]? = some v:=by simpa using e
   have hj:j < xs.length:=by rw[rv.length];exact (List.getElem?_eq_some_iff.mp e').1
   obtain ⟨u,hu,ru⟩:=rv.get (List.getElem?_eq_getElem hj)
   rw[e'] at hu;cases hu
   exact ⟨_,List.getElem?_eq_getElem hj,ru⟩
  ·rcases List.mem_cons.mp hm with z|z
   · exact nb z
   · exact aCJ I hb hx (by simpa using z)
noncomputable def tG(z:Str):List V:=z.cps.toList.map fun c=>V.str ⟨#[c]⟩
theorem aHH{P:Program}{w:World}{K:Frag}(z:Str)(t:Tok)(it:Addr):ColOk P w K (fun _ xs=>xs=tG z) it (fun i h=>h.IsStrIter it (strIterType z) z t i) where
 obj:=fun i h ⟨o,e,c,d⟩=>⟨o,e,fun v z=>by rw[d] at z;cases z⟩
 keep:=fun i h h' ⟨o,e,r⟩ k=>⟨o,k o e,r⟩
 one:=fun _ _ _ _ _ _ _ _ _ _ _ h1 h2=>h1.trans h2.symm
 draw:=by
  intro X hP hw hK i pins s σ H xs A I hf st hx hh
  subst hP hw hK hx
  have hD:Draws X.prog X.w A it [it] z.cps.size (fun i v=>∃ c u,z.cps[i]? = some c/\v=.str ⟨#[c]⟩ u) (fun i h=>h.IsStrIter it (strIterType z) z t i):=by
   unfold strIterType
   split
   · exact Draws.strAscii hh it z t
   · exact Draws.strWide hh it z t
  refine ⟨[it],_,_,by rw[show (tG z).length=z.cps.size by unfold tG;simp];exact hD,st,fun j h z=>z,?_,fun b hb nb hm=>nb (by simpa using hm)⟩
  rintro j v ⟨c,u,hc,rfl⟩
  exact ⟨.str ⟨#[c]⟩,by unfold tG;rw[List.getElem?_map,Array.getElem?_toList,hc];rfl,u,rfl⟩
def Itz(C1 C2:Col):It:=
 ⟨fun i H=>∃ xs ys,C1 H xs/\C2 H ys/\i < xs.length/\i < ys.length,fun i H x H'=>∃ p u v,H p=none/\x=.ref p/\H'=upd H p (.tup [u,v])/\(∀ xs,C1 H xs->xs[i]? = some u)/\∀ ys,C2 H ys->ys[i]? = some v,
  fun i H=>∃ xs ys,C1 H xs/\C2 H ys/\(i=xs.length\/(i < xs.length/\i=ys.length))⟩
theorem aEY{P:Program}{w:World}{K:Frag}{es:List Expr}{k1}{tpos:Pos}{C1 C2:Col}{z TI TO i1 i2:Addr}{t1 t2:Nat->Heap->Prop}(c1:ColOk P w K C1 i1 t1)(c2:ColOk P w K C2 i2 t2)(hd:[z,TI,TO,i1,i2].Nodup) :
  Turn P w K (.Tuple es k1 tpos) (Itz C1 C2) [z,TI,TO,i1,i2] z (fun i h=>IsZip h z TI TO .none/\IsPair h TI (.ref i1) (.ref i2)/\(∃ a b,IsPair h TO a b)/\t1 i h/\t2 i h) where
 mem:=by simp
 obj:=fun i h zz0 c hc=>by
  obtain ⟨s1,s2,⟨a,b,s3⟩,s4,s5⟩:=zz0
  simp only[List.mem_cons,List.not_mem_nil,or_false] at hc
  rcases hc with rfl|rfl|rfl|rfl|rfl
  ·exact ⟨_,s1,fun v z=>by have z':Data.fields _=Data.cell v:=z;cases z'⟩
  ·exact ⟨_,s2,fun v z=>by have z':Data.seq _ _=Data.cell v:=z;cases z'⟩
  ·exact ⟨_,s3,fun v z=>by have z':Data.seq _ _=Data.cell v:=z;cases z'⟩
  ·exact c1.obj i h s4
  ·exact c2.obj i h s5
 keep:=fun i h h' ⟨s1,s2,⟨a,b,s3⟩,s4,s5⟩ k=>⟨k z (by simp) _ s1,k TI (by simp) _ s2,⟨a,b,k TO (by simp) _ s3⟩,c1.keep i h h' s4 fun o e=>k i1 (by simp) o e,c2.keep i h h' s5 fun o e=>k i2 (by simp) o e⟩
 item:=by
  intro X hP hw hK hc i pins s σ H E I hf st hg
  obtain ⟨s1,s2,⟨a,b,s3⟩,s4,s5⟩:=st
  obtain ⟨xs,ys,q1,q2,l1,l2⟩:=hg
  simp only[List.nodup_cons,List.mem_cons,List.not_mem_nil,or_false,not_or,List.nodup_nil,and_true,not_false_eq_true] at hd
  obtain ⟨⟨d1,d2,d3,d4⟩,⟨d5,d6,d7⟩,⟨d8,d9⟩,d10⟩:=hd
  have hhd:X.A.in1.handled=none:=I.ok.hd hc
  obtain ⟨f1,P1,S1,D1,a1,a2,a3,a4⟩:=c1.draw X hP hw hK i pins s σ H xs X.A.in1 I (hf i1 (by simp)) s4 q1 hhd
  obtain ⟨f2,P2,S2,D2,b1,b2,b3,b4⟩:=c2.draw X hP hw hK i pins s σ H ys X.A.in1 I (hf i2 (by simp)) s5 q2 hhd
  have one1:=fun zs (h:C1 H zs)=>c1.one X hP hw hK pins s σ H zs xs I h q1
  have one2:=fun zs (h:C2 H zs)=>c2.one X hP hw hK pins s σ H zs ys I h q2
  subst hP hw hK
  have D:Zp.Apart z TI TO i1 i2 f1 f2:=⟨Ne.symm d1,Ne.symm d2,Ne.symm d3,Ne.symm d4,d5,d6,d7,d8,d9,d10,a4 z (hf z (by simp)) d3,b4 z (hf z (by simp)) d4,a4 TO (hf TO (by simp)) d8,b4 TO (hf TO (by simp)) d9,b4 i1 (hf i1 (by simp)) d10,a4 i2 (hf i2 (by simp)) (Ne.symm d10)⟩
  refine Zp.aCG D D1 D2 s1 s2 s3 a1 b1 l1 l2 fun x y h' tk px py g1 g2 g3 g4 g5 g6 kp=>?_
  obtain ⟨u,hu,ru⟩:=a3 i x px
  obtain ⟨v,hv,rv⟩:=b3 i y py
  refine ⟨_,rfl,wpAny_letOwnedTupleGo_zip g1 fun h2 se sb=>?_⟩
  have ne1:s.heap.objs.size≠z:=Nat.ne_of_gt (Heap.lt_size s1)
  have hT2:h2.get? s.heap.objs.size=some {cls:=.type "tuple",data:=.seq #[x,y]}:=(sb.2 _ ne1).trans g5
  have fT:H s.heap.objs.size=none:=I.hok.fresh (Nat.le_refl _)
  have kp2:∀ c o,c∉[z,TI,TO,i1,i2]->s.heap.get? c=some o->h2.get? c=some o:=fun c o hc' q=>by
   simp only[List.mem_cons,List.not_mem_nil,or_false,not_or] at hc'
   exact (sb.2 c hc'.1).trans (kp c o hc'.1 hc'.2.2.1 hc'.2.2.2.1 hc'.2.2.2.2 q)
  have nfp:∀ c uu,H c=some uu->c∉[z,TI,TO,i1,i2]:=fun c uu q z2=>by rw[(hf c z2).1] at q;cases q
  have hok2:HOk X.prog X.w H h2:=fun c uu q=>by
   refine (I.hok c uu q).stay (fun c' v' hc' q'=>kp2 c' v' ?_ q') (fun _ q=>q) (fun _ _ q=>q) fun _ _ q=>q
   rcases hc' with z2|z2
   ·rw[z2];exact nfp c uu q
   ·exact nfp c' _ z2
  have hokT:HOk X.prog X.w (upd H s.heap.objs.size (.tup [u,v])) h2:=HOk.track hok2 fT ⟨by show 2<=sizeLine;decide,[x,y],.cons ru (.cons rv .nil),⟨_,hT2,rfl,_,rfl⟩⟩
  have ltT:∀ c uu,H c=some uu->c≠s.heap.objs.size:=fun c uu q=>cN q fT
  have I2:Inv X pins σ (upd H s.heap.objs.size (.tup [u,v])) {s with heap:=h2,gens:=s.gens,drawn:=s.drawn,toks:=tk}:=by
   refine I.step (ch:=[z,TI,TO,i1,i2]) (fun c hc'=>?_) (fun c o _ _ hc' q _=>kp2 c o hc' q) (fun c o _ _ hc' q _=>⟨o.slots,kp2 c o hc' q⟩)
    (fun c o _ q n=>by rw[aK (Nat.ne_of_lt (Heap.lt_size q))];exact n) (fun c o hc' q=>⟨o,kp2 c o hc' q⟩) (fun c ys q=>by rw[aK (ltT c _ q)];exact q) (fun c o uu q=>by rw[aK (ltT c _ q)];exact q)
    (fun c ps q=>by rw[aK (ltT c _ q)];exact q) (fun m hm=>?_) hokT I.bare
   ·obtain ⟨e0,e1,e2,e3,e4,e5⟩:=hf c hc'
    exact ⟨e3,e1,e4,e5⟩
   ·obtain ⟨o,es',ep,ho,r⟩:=hm
    exact ⟨o,es',ep,kp2 _ o (fun z2=>(hf _ z2).2.1 rfl) ho,r⟩
  refine ⟨.ref s.heap.objs.size,_,I2,rfl,⟨_,u,v,fT,rfl,rfl,fun zs hzs=>by rw[one1 zs hzs];exact hu,fun zs hzs=>by rw[one2 zs hzs];exact hv⟩,⟨se,(sb.2 TI (Ne.symm d1)).trans (kp TI _ (Ne.symm d1) d5 d6 d7 s2),⟨x,y,(sb.2 TO (Ne.symm d2)).trans g2⟩,c1.keep _ _ _ (a2 _ _ g3) fun o e=>(sb.2 i1 (Ne.symm d3)).trans e,c2.keep _ _ _ (b2 _ _ g4) fun o e=>(sb.2 i2 (Ne.symm d4)).trans e⟩,fun c hc'=>?_⟩
  rw[aK]
  ·exact (hf c hc').1
  ·intro z2
   have hlt:c < s.heap.objs.size:=by
    simp only[List.mem_cons,List.not_mem_nil,or_false] at hc'
    rcases hc' with rfl|rfl|rfl|rfl|rfl
    · exact Heap.lt_size s1
    · exact Heap.lt_size s2
    · exact Heap.lt_size s3
    · obtain ⟨o, e, _⟩ := c1.obj _ _ s4; exact Heap.lt_size e
    · obtain ⟨o, e, _⟩ := c2.obj _ _ s5; exact Heap.lt_size e
   rw[z2] at hlt
   exact absurd hlt (Nat.lt_irrefl _)
 done:=by
  intro X hP hw hK hc i pins s σ H E I hf st hg
  obtain ⟨s1,s2,⟨a,b,s3⟩,s4,s5⟩:=st
  obtain ⟨xs,ys,q1,q2,hend⟩:=hg
  simp only[List.nodup_cons,List.mem_cons,List.not_mem_nil,or_false,not_or,List.nodup_nil,and_true,not_false_eq_true] at hd
  obtain ⟨⟨d1,d2,d3,d4⟩,⟨d5,d6,d7⟩,⟨d8,d9⟩,d10⟩:=hd
  have hhd:X.A.in1.handled=none:=I.ok.hd hc
  obtain ⟨f1,P1,S1,D1,a1,a2,a3,a4⟩:=c1.draw X hP hw hK i pins s σ H xs X.A.in1 I (hf i1 (by simp)) s4 q1 hhd
  obtain ⟨f2,P2,S2,D2,b1,b2,b3,b4⟩:=c2.draw X hP hw hK i pins s σ H ys X.A.in1 I (hf i2 (by simp)) s5 q2 hhd
  subst hP hw hK
  have D:Zp.Apart z TI TO i1 i2 f1 f2:=⟨Ne.symm d1,Ne.symm d2,Ne.symm d3,Ne.symm d4,d5,d6,d7,d8,d9,d10,a4 z (hf z (by simp)) d3,b4 z (hf z (by simp)) d4,a4 TO (hf TO (by simp)) d8,b4 TO (hf TO (by simp)) d9,b4 i1 (hf i1 (by simp)) d10,a4 i2 (hf i2 (by simp)) (Ne.symm d10)⟩
  refine Zp.aEV D D1 D2 s1 s2 s3 a1 b1 hend fun h' tk kp=>⟨rfl,?_⟩
  have kp2:∀ c o,c∉[z,TI,TO,i1,i2]->s.heap.get? c=some o->h'.get? c=some o:=fun c o hc' q=>by
   simp only[List.mem_cons,List.not_mem_nil,or_false,not_or] at hc'
   exact kp c o hc'.1 hc'.2.2.1 hc'.2.2.2.1 hc'.2.2.2.2 q
  have nfp:∀ c uu,H c=some uu->c∉[z,TI,TO,i1,i2]:=fun c uu q z2=>by rw[(hf c z2).1] at q;cases q
  have hthere:∀ c o,s.heap.get? c=some o->c∈[TI]->h'.get? c=some o:=fun c o e hm=>by
   have:c=TI:=by simpa using hm
   subst this
   exact kp c o (Ne.symm d1) d5 d6 d7 e
  refine I.step (g':=s.gens) (d':=s.drawn) (ch:=[z,TI,TO,i1,i2]) (fun c hc'=>?_) (fun c o _ _ hc' q _=>kp2 c o hc' q) (fun c o _ _ hc' q _=>⟨o.slots,kp2 c o hc' q⟩) (fun _ _ _ _ n=>n) (fun c o hc' q=>⟨o,kp2 c o hc' q⟩) (fun _ _ q=>q) (fun _ _ _ q=>q) (fun _ _ q=>q) (fun m hm=>?_) (fun c uu q=>?_) I.bare
  ·obtain ⟨e0,e1,e2,e3,e4,e5⟩:=hf c hc'
   exact ⟨e3,e1,e4,e5⟩
  ·obtain ⟨o,es',ep,ho,r⟩:=hm
   exact ⟨o,es',ep,kp2 _ o (fun z2=>(hf _ z2).2.1 rfl) ho,r⟩
  ·refine (I.hok c uu q).stay (fun c' v' hc' q'=>kp2 c' v' ?_ q') (fun _ q=>q) (fun _ _ q=>q) fun _ _ q=>q
   rcases hc' with z2|z2
   ·rw[z2];exact nfp c uu q
   ·exact nfp c' _ z2
 self:=fun _ _ _ _ _ st h=>wpAny_pyIter_zip st.1 h
end L2
namespace L2
open PySem PySem.Spec PyProof.Rows
def aAQ(K:Frag)(H:Hp)(x:V)(C:Col):Prop:=
 (∃ a xs,x=.ref a/\SqL K H a xs/\C=fun H xs=>SqL K H a xs)\/(∃ a xs,x=.ref a/\SqT K H a xs/\C=fun H xs=>SqT K H a xs)\/∃ z,x=.str z/\C=fun _ xs=>xs=tG z
theorem xE{X:Cx}{pins:List (Addr×Obj)}{σ:St}{H:Hp}{s:Shared}{x:V}{u:Value}{C:Col}(I:Inv X pins σ H s)(r:bH x u)(h:aAQ X.K H x C) :
  ∃ (o:Obj) (tn:Addr->Nat->Heap->Prop),(∀ h':Heap,(∀ b ob,s.heap.get? b=some ob->h'.get? b=some ob)->Zp.o3 u o h')/\o.isFreed=false/\(∀ it,ColOk X.prog X.w X.K C it (tn it))/\∀ it h',h'.get? it=some o->tn it 0 h':=by
 rcases h with ⟨a,xs,rfl,hq,rfl⟩|⟨a,xs,rfl,hq,rfl⟩|⟨z,rfl,rfl⟩
 ·cases r
  obtain ⟨its,rv,p,hz⟩:=I.list hq
  refine ⟨{cls:=.type "list_iterator",data:=.fields #[.ref a,.int 0 0]},fun it i h=>h.IsListIter it a i,fun h' kp prog w A E s' Q e q=>?_,rfl,fun it=>aEX a it,fun it h' e=>⟨_,e,rfl,rfl⟩⟩
  subst e
  refine wpAny_pyIter_list (l:=a) (items:=its.toArray) ?_ q
  obtain ⟨o,e,r⟩:=p.isList
  exact ⟨o,kp _ _ e,r⟩
 ·cases r
  obtain ⟨its,rv,p,hz⟩:=I.tuple hq
  refine ⟨{cls:=.type "tuple_iterator",data:=.fields #[.ref a,.int 0 0]},fun it i h=>h.IsTupleIter it a i,fun h' kp prog w A E s' Q e q=>?_,rfl,fun it=>aCK a it,fun it h' e=>⟨_,e,rfl,rfl⟩⟩
  subst e
  refine wpAny_pyIter_tuple (t:=a) (items:=its.toArray) ?_ q
  obtain ⟨o,e,r⟩:=p
  exact ⟨o,kp _ _ e,r⟩
 ·obtain ⟨t,rfl⟩:=r
  refine ⟨{cls:=.type (strIterType z),data:=.fields #[.str z t,.int 0 0]},fun it i h=>h.IsStrIter it (strIterType z) z t i,fun h' kp prog w A E s' Q e q=>?_,rfl,fun it=>aHH z t it,fun it h' e=>⟨_,e,rfl,rfl⟩⟩
  subst e
  exact wpAny_pyIter_strU q
def aJS(K:Frag)(ta:TA):TI:=fun σ H R=>ta σ H fun vs H1=>∃ x y C1 C2,vs=[x,y]/\aAQ K H1 x C1/\aAQ K H1 y C2/\R (Itz C1 C2) H1
theorem aJT{X:Cx}{es:List Expr}{k1}{tpos:Pos}{a b:Expr}{ta:TA}{p pos:Pos}(hg:Gl X "zip")(hm:X.mg "zip"=none)(ha:PA X [a,b] ta)(hs:starEach [a,b] X.env=[(false,eval a X.env),(false,eval b X.env)]:=by rfl)(hs2:starEach [b] X.env=[(false,eval b X.env)]:=by rfl) :
  PI X (.Tuple es k1 tpos) (.Call (.Name "zip" p) [a,b] [] pos) (aJS X.K ta):=by
 intro pins s σ H R I h
 refine Call_ (j4 I hg hm PyProof.Rows.boot_zip (PyProof.Rows.callWith_type1 (thn (ha pos pins s σ H _ I h) fun us s1 ⟨vs,H1,I1,r1,q1⟩=>?_) (by rw[hs,hs2]) (by rw[hs2];rfl)))
 obtain ⟨x,y,C1,C2,rfl,c1,c2,q⟩:=q1
 cases r1 with
 | cons ru rr=>
  cases rr with
  | cons rv rr=>
   cases rr
   rename_i u1 _ u2
   obtain ⟨o1,t1,a1,a2,a3,a4⟩:=xE I1 ru c1
   obtain ⟨o2,t2,b1,b2,b3,b4⟩:=xE I1 rv c2
   refine Zp.aEW (a1 _ fun _ _ e=>e) (b1 _ fun _ _ e=>Heap.get?_push_of_some _ e) a2 b2 fun h' z1 z2 z3 z4 z5 z6 kp=>?_
   have I2:Inv X pins σ H1 {s1 with heap:=h'}:=I1.kept (t':=s1.toks) kp
   refine wpAny_pyIter_zip z1 ?_
   refine ⟨s1.heap.objs.size+4,[s1.heap.objs.size+4,s1.heap.objs.size+2,s1.heap.objs.size+3,s1.heap.objs.size,s1.heap.objs.size+1],_,_,H1,rfl,I2,aEY (a3 _) (b3 _) ?_,⟨z1,z2,⟨_,_,z3⟩,a4 _ _ z4,b4 _ _ z5⟩,fun c hc=>?_,q⟩
   ·simp only[List.nodup_cons,List.mem_cons,List.not_mem_nil,or_false,not_or,List.nodup_nil,and_true,not_false_eq_true]
    refine ⟨⟨?_,?_,?_,?_⟩,⟨?_,?_,?_⟩,⟨?_,?_⟩,?_⟩<;>(intro z;have z':=congrArg (fun x:Nat=>x - s1.heap.objs.size) z;simp at z')
   ·have hle:s1.heap.objs.size<=c:=by
     simp only[List.mem_cons,List.not_mem_nil,or_false] at hc
     rcases hc with rfl|rfl|rfl|rfl|rfl
     · exact Nat.le_add_right _ _
     · exact Nat.le_add_right _ _
     · exact Nat.le_add_right _ _
     · exact Nat.le_refl _
     · exact Nat.le_add_right _ _
    exact I1.fpOk hle (I1.hok.fresh hle)
end L2
namespace Fl
open PySem L2 PyProof.Rows
noncomputable def aAR(p:PyData×PyData):PyData:=.tuple [p.1,p.2]
noncomputable def xF(x y:PyData):R (List PyData):=(dX x).bind fun xs=>(dX y).bind fun ys=>.ok ((xs.zip ys).map aAR)
theorem aAS{d:PyData}{xs:List PyData}(h:dX d=.ok xs):xs.length<=16777216:=by
 unfold dX at h
 split at h
 ·split at h
  · rename_i hz; cases h; exact hz
  · cases h
 ·split at h
  · rename_i hz; cases h; exact hz
  · cases h
 ·split at h
  · rename_i hz; cases h; rw [List.length_map]; exact hz
  · cases h
 ·cases h
theorem uJ{d:PyData}{e:Er}:dX d≠.ex e:=by
 intro h
 unfold dX at h
 split at h
 · split at h <;> cases h
 · split at h <;> cases h
 · split at h <;> cases h
 · cases h
theorem xG{K:Frag}{F:Hp}:∀ (cs:List Nat),DatVs K F (cs.map fun c=>V.str ⟨#[c]⟩) (cs.map fun c=>PyData.str ⟨#[c]⟩)
 | []=>.nil
 | c::t=>.cons (.str _) (xG t)
theorem xH{K:Frag}{F B:Hp}{v:V}{d:PyData}{xs:List PyData}(s:aO F B)(r:DatV K F v d)(h:dX d=.ok xs):∃ C vs,aAQ K B v C/\(∀ H1,aO F H1->C H1 vs)/\DatVs K F vs xs:=by
 unfold dX at h
 split at h
 ·split at h
  ·cases h
   obtain ⟨p,vs,rfl,h1,h2⟩:=DatV.lst_of r
   exact ⟨_,vs,.inl ⟨p,vs,rfl,h1.same s,rfl⟩,fun H1 q=>h1.same q,h2⟩
  ·cases h
 ·split at h
  ·cases h
   obtain ⟨p,vs,rfl,h1,h2⟩:=DatV.tup_of r
   exact ⟨_,vs,.inr (.inl ⟨p,vs,rfl,h1.same s,rfl⟩),fun H1 q=>h1.same q,h2⟩
  ·cases h
 ·rename_i z
  split at h
  ·cases h
   obtain rfl:=DatV.str_of r
   exact ⟨_,tG z,.inr (.inr ⟨z,rfl,rfl⟩),fun _ _=>rfl,xG _⟩
  ·cases h
 ·cases h
theorem y6{α β:Type}:∀ {xs:List α} {ys:List β} {i:Nat} {x:α} {y:β},xs[i]? = some x->ys[i]? = some y->(xs.zip ys)[i]? = some (x,y)
 | [],_,_,_,_,h,_=>by simp at h
 | _::_,[],_,_,_,_,h=>by simp at h
 | x::xs,y::ys,0,_,_,h1,h2=>by simp at h1 h2;subst h1 h2;rfl
 | x::xs,y::ys,i+1,_,_,h1,h2=>by
  show (xs.zip ys)[i]? = _
  exact y6 (by simpa using h1) (by simpa using h2)
theorem aHI{K:Frag}{F B:Hp}{C1 C2:Col}{us vs:List V}{xs ys:List PyData}(hz:xs.length<=16777216)(h1:∀ H1,aO F H1->aO B H1->C1 H1 us)(h2:∀ H1,aO F H1->aO B H1->C2 H1 vs)(d1:DatVs K F us xs)(d2:DatVs K F vs ys) :
  Yld K (Itz C1 C2) F B ((xs.zip ys).map aAR) where
 len:=by rw[dQ,List.length_map,List.length_zip];omega
 go:=fun i F1 H1 a1 a2 a3 hi=>by
  rw[List.length_map,List.length_zip] at hi
  have hs:aO F H1:=fun x o z=>a2 x o (a1 x o z)
  exact ⟨us,vs,h1 H1 hs a3,h2 H1 hs a3,by rw[d1.length];omega,by rw[d2.length];omega⟩
 yld:=fun i F1 H1 v H2 x a1 a2 a3 y e=>by
  obtain ⟨p,u,w,hp,rfl,rfl,y1,y2⟩:=y
  have hs:aO F H1:=fun x o z=>a2 x o (a1 x o z)
  obtain ⟨dx,e1,r1⟩:=d1.get (y1 us (h1 H1 hs a3))
  obtain ⟨dy,e2,r2⟩:=d2.get (y2 vs (h2 H1 hs a3))
  rw[List.getElem?_map,y6 e1 e2] at e
  cases e
  have sm:=aO.upd (o:=.tup [u,w]) (cA a2 hp)
  exact ⟨_,Ext.new a2 hp,.tup (SqT.of aW) (.cons ((r1.same a1).same sm) (.cons ((r2.same a1).same sm) .nil))⟩
 stop:=fun F1 H1 a1 a2 a3=>by
  have hs:aO F H1:=fun x o z=>a2 x o (a1 x o z)
  refine ⟨us,vs,h1 H1 hs a3,h2 H1 hs a3,?_⟩
  rw[List.length_map,List.length_zip,d1.length,d2.length]
  omega
section
variable{X:Cx}{c:Ct}{E:XK}{tg e:Expr}
theorem aHJ{f g:Sg->R PyData}(hK:X.K=c.K)(h:PI X tg e (aJS X.K (d0 (tV (bT c) c E f) (d0 (tV (bT c) c E g) gG)))):PI0 X c E tg e (fun ρ=>(f ρ).bind fun x=>(g ρ).bind fun y=>xF x y):=PI.imp h fun σ H Q zz0=>by
 obtain ⟨ρ,F,ab,k⟩:=zz0
 refine ⟨ρ,F,ab,(Rk.bind k).imp fun x _ q v F1 H1 s1 r1=>⟨ρ,F1,ab.ext s1,((Rk.bind q).ext s1).imp fun y _ q w F' H' s r=>?_⟩⟩
 unfold xF at q
 cases e1:dX x with
 | bad=>rw[e1] at q;exact q.elim
 | ex e=>exact absurd e1 uJ
 | ok xs=>
  rw[e1] at q
  cases e2:dX y with
  | bad=>rw[R.bind_ok,e2] at q;exact q.elim
  | ex e=>exact absurd e2 uJ
  | ok ys=>
   rw[R.bind_ok,e2] at q
   have r1':DatV c.K F' v x:=DatV.same s.ff r1
   obtain ⟨C1,us,a1,a2,a3⟩:=xH s.fh r1' e1
   obtain ⟨C2,vs,b1,b2,b3⟩:=xH s.fh r e2
   rw[hK]
   exact ⟨v,w,C1,C2,rfl,a1,b1,Rk.ok q _ F' H' (s1.trans s) (aHI (aAS e1) (fun H1 z _=>a2 H1 z) (fun H1 z _=>b2 H1 z) a3 b3)⟩
end
end Fl
namespace L2
open PySem PySem.Spec PyProof.Rows
end L2
namespace Fl
open PySem L2 PyProof.Rows
section
variable{X:Cx}{c:Ct}{E:XK}{e a b:Expr}{st:Stmt}{pos:Pos}
noncomputable def aLL(i:Nat)(f g:Sg->R PyData):Sg->R Fw:=fun ρ=>match ρ[i]? with
 | some (some (.m kvs))=>(f ρ).bind fun k=>(g ρ).bind fun y=>if eD k (kvs.map (·.1))=true/\kvs.length<=16777216 then .ok (.nx (if eU kvs k=true then ρ else ρ.set i (some (.m (putM kvs k y))))) else .bad
 | _=>.bad
end
end Fl
namespace Fl
open PySem L2 PyProof.Rows
def aMO(i:Nat):Sg->R Fw:=fun ρ=>match ρ[i]? with
 | some (some (.l xs))=>.ok (.nx (ρ.set i (some (.l xs.reverse))))
 | _=>.bad
end Fl
namespace Zp
open PySem
end Zp
namespace Fl
open PySem L2 PyProof.Rows
end Fl
namespace Fl
open PySem L2 PyProof.Rows
end Fl
namespace Zp
open PySem
def Raw(h:Heap)(d:Addr)(ar:Array DictEntry)(ep:Nat):Prop:=∃ o,h.get? d=some o/\o.ExactDict/\o.data=.dict ar ep
end Zp
namespace Fl
open PySem L2 PyProof.Rows
section
variable{X:Cx}{c:Ct}{E:XK}{tg e:Expr}
end
end Fl
namespace Zp
open PySem
end Zp
namespace Zp
open PySem
structure Jz(P1 P2:Nat->Value->Prop)(S1 S2:Nat->Heap->Prop)(s0:Heap)(z TI TO i1 i2 S:Addr)(n:Nat)(acc:Array Value)(h:Heap):Prop where
 size:acc.size<=n
 inc:∀ (j k p q:Nat),j < k->acc[j]? = some (.ref p)->acc[k]? = some (.ref q)->p < q
 top:∀ (j p:Nat),acc[j]? = some (.ref p)->p < h.objs.size
 told:∀ (j:Nat) v,acc[j]? = some v->∃ p x y,v=.ref p/\S < p/\IsPair h p x y/\P1 j x/\P2 j y
 s1:S1 acc.size h
 s2:S2 acc.size h
 ti:IsPair h TI (.ref i1) (.ref i2)
 keep:∀ c o,c≠z->c≠TO->c≠i1->c≠i2->c≠S->s0.get? c=some o->h.get? c=some o
 big:S < h.objs.size
 st:(acc.size=0/\IsZip h z TI TO .none/\∃ a b,IsPair h TO a b)\/(0 < acc.size/\∃ (T:Addr) (bb:Bool) (o:Obj),k9 h z TI TO (rawInt T) (.bool bb)/\h.get? T=some o/\S < T)
end Zp
namespace L2
open PySem PySem.Spec PyProof.Rows
structure LZ(H1 H2:Hp)(xs ys:List V)(l:Addr)(ps:List Addr):Prop where
 same:∀ b o,H1 b=some o->H2 b=some o
 new:H1 l=none
 lst:H2 l=some (.lst (ps.map .ref))
 len:ps.length=min xs.length ys.length
 tup:∀ (j:Nat) p,ps[j]? = some p->H1 p=none/\∃ u v,xs[j]? = some u/\ys[j]? = some v/\H2 p=some (.tup [u,v])
end L2
namespace HT
open PySem PySem.Spec PyProof.Rows L2
end HT
namespace Fl
open PySem L2 PyProof.Rows
end Fl
namespace L2
open PySem PySem.Spec PyProof.Rows
end L2
namespace Mc
open PySem L2 PyProof.Rows Fl
noncomputable def nL:Sg->R Fw:=(bN (vD (e1 dLen (e2 dIx (e2 dIx (rV 0) (eC (.int 0))) (eC (.int 1))))))
noncomputable def i8:List A->R A:=fnF 1 nL
noncomputable def lA:Sg->R Fw:=(aN (a8 2 (vD (eSl dSl (eC (.str "abc")) oNo (oSo (rV 0)))))
 (aN (nH (e1 vT (eV 1)) (stT [(stN 3),(stN 4)]) (sIf (e1 asB (e2 dNin (rV 4) (rV 2))) (rO "NoStrip" ["at"] (aB (eV 3) aS)) sNx))
 (bN (vV 1))))
noncomputable def gO:List A->R A:=fnF 5 lA
noncomputable def o4:Sg->R Fw:=(bN (bF 2 gO (aB (bF 1 i8 (aB (vV 0) aS)) (aB (vV 1) aS))))
noncomputable def gP:List A->R A:=fnF 2 o4
noncomputable def o5:Sg->R Fw:=(aN (a8 3 (vD (e2 dIx (rV 2) (eC (.int 0)))))
 (aN (a8 4 (vD (e2 dIx (rV 0) (e2 dIx (rV 2) (eC (.int 1))))))
 (aN (sIf (e1 asB (e2 dEq (rV 3) (eC (.int 0)))) (bN (vD (dF (aB (e2 dIx (rV 4) (eC (.int 0))) (aB (eC (.int 1)) aS))))) sNx)
 (aN (sIf (e1 asB (e2 dEq (rV 3) (e2 bL (e1 dLen (rV 1)) (eC (.int 1))))) (bN (vD (dF (aB (e2 dIx (rV 4) (eC (.int 2))) (aB (e1 dNeg (eC (.int 1))) aS))))) sNx)
 (bN (vD (e2 dIx (e2 dIx (rV 4) (eC (.int 1))) (e2 oX (eC (.str "abc")) (e2 dIx (rV 1) (e2 dSub (rV 3) (eC (.int 1))))))))))))
noncomputable def fY:List A->R A:=fnF 5 o5
noncomputable def xI:Sg->R Fw:=(aN (vP (bF 2 gP (aB (vV 0) (aB (vV 1) aS))))
 (aN (a8 2 (vD (eC (.tuple [.int 0,.int 0]))))
 (aN (fH 3 (fG (aB (eV 2) aS)))
 (aN (pR 4)
 (aN (cB (e1 asB (qR true 4 (eV 2))) (aN (pS 4 (eV 2) (eC (.bool true)))
 (aN (a8 5 (bF 3 fY (aB (vV 0) (aB (vV 1) (aB (vV 2) aS)))))
 (aN (sIf (e1 asB (e2 dIn (e2 dIx (rV 5) (eC (.int 0))) (eC (.tuple [.str "by",.str "out"])))) (sFz 3 (bN (vV 3))) sNx)
 (aN (a8 2 (vD (dF (aB (e2 bL (e2 dIx (rV 2) (eC (.int 0))) (e2 dIx (rV 5) (eC (.int 1)))) (aB (e2 dIx (rV 5) (eC (.int 0))) aS)))))
 (f8 3 (eV 2)))))))
 (sFz 3 (bN (vV 3))))))))
noncomputable def lB:List A->R A:=fnF 6 xI
end Mc
namespace Mc
open PySem L2 PyProof.Rows
end Mc
namespace Fl
open PySem L2 PyProof.Rows
@[simp] theorem b6(d:PyData)(ρ:Sg):eC d ρ=.ok d:=id rfl
@[simp] theorem b7{α β:Type}(g:α->R β)(f:Sg->R α)(ρ:Sg):e1 g f ρ=(f ρ).bind g:=id rfl
@[simp] theorem bY{α β γ:Type}(g:α->β->R γ)(f:Sg->R α)(f':Sg->R β)(ρ:Sg):e2 g f f' ρ=(f ρ).bind fun x=>(f' ρ).bind fun y=>g x y:=id rfl
@[simp] theorem kI(i:Nat)(ρ:Sg):eV i ρ=match ρ[i]? with|some (some (.d x))=>.ok x|_=>.bad:=id rfl
@[simp] theorem bW(i:Nat)(ρ:Sg):rV i ρ=match ρ[i]? with|some (some (.d x))=>.ok x|some (some (.l xs))=>.ok (.list xs)|_=>.bad:=id rfl
@[simp] theorem gZ(i:Nat)(ρ:Sg):vV i ρ=match ρ[i]? with|some (some (.d x))=>.ok (.d x)|some (some (.x e))=>.ok (.x e)|some (some (.g k n f))=>.ok (.g k n f)|some (some (.f kvs))=>.ok (.f kvs)|_=>.bad:=id rfl
@[simp] theorem dE(f:Sg->R PyData)(ρ:Sg):vD f ρ=(f ρ).bind fun x=>.ok (.d x):=id rfl
@[simp] theorem i9(x:PyData):getD (.d x)=.ok x:=id rfl
@[simp] theorem kJ(f:Sg->R A)(ρ:Sg):eA f ρ=(f ρ).bind getD:=id rfl
@[simp] theorem aFW(f:Sg->R (List PyData))(ρ:Sg):eL f ρ=(f ρ).bind fun xs=>.ok (.list xs):=id rfl
@[simp] theorem c8{α:Type}(ρ:Sg):(aS (α:=α)) ρ=.ok []:=id rfl
@[simp] theorem dA{α:Type}(f:Sg->R α)(g:Sg->R (List α))(ρ:Sg):aB f g ρ=(f ρ).bind fun x=>(g ρ).bind fun xs=>.ok (x::xs):=id rfl
@[simp] theorem jR(f:Sg->R (List PyData))(ρ:Sg):dF f ρ=(f ρ).bind fun xs=>if xs.length<=16777216 then .ok (.tuple xs) else .bad:=id rfl
@[simp] theorem jS(f:Sg->R (List PyData))(ρ:Sg):fG f ρ=(f ρ).bind fun xs=>if xs.length<=16777216 then .ok xs else .bad:=id rfl
@[simp] theorem eH(n:Nat)(G:List A->R A)(f:Sg->R (List A))(ρ:Sg):bF n G f ρ=(f ρ).bind fun as=>if as.length=n then G as else .bad:=id rfl
@[simp] theorem dC(n:Nat)(fb:Sg->R Fw)(as:List A):fnF n fb as=(fb (as.map some++List.replicate (n - as.length) none)).bind fun w=>match w with | .rt (.l _)=>.bad | .rt a=>.ok a | .nx _=>.ok (.d .none)|_=>.bad:=id rfl
@[simp] theorem eJ(ρ:Sg):sNx ρ=.ok (.nx ρ):=id rfl
@[simp] theorem bK(f g:Sg->R Fw)(ρ:Sg):aN f g ρ=(f ρ).bind fun w=>match w with | .nx ρ'=>g ρ'|w=>.ok w:=id rfl
@[simp] theorem eG(f:Sg->R A)(ρ:Sg):bN f ρ=(f ρ).bind fun a=>.ok (.rt a):=id rfl
@[simp] theorem aMP(ρ:Sg):aLD ρ=.ok (.rt (.d .none)):=id rfl
@[simp] theorem cH(t:Sg->R Bool)(f g:Sg->R Fw)(ρ:Sg):sIf t f g ρ=(t ρ).bind fun b=>if b=true then f ρ else g ρ:=id rfl
@[simp] theorem aNC{α:Type}(t:Sg->R Bool)(f g:Sg->R α)(ρ:Sg):eIf t f g ρ=(t ρ).bind fun b=>if b=true then f ρ else g ρ:=id rfl
@[simp] theorem c6(i:Nat)(f:Sg->R A)(ρ:Sg):a8 i f ρ=(f ρ).bind fun a=>.ok (.nx (ρ.set i (some a))):=id rfl
@[simp] theorem iN(i:Nat)(f:Sg->R (List PyData))(ρ:Sg):fH i f ρ=(f ρ).bind fun xs=>.ok (.nx (ρ.set i (some (.l xs)))):=id rfl
@[simp] theorem aEZ(f:Sg->R A)(ρ:Sg):vP f ρ=(f ρ).bind fun _=>.ok (.nx ρ):=id rfl
@[simp] theorem aJU(i:Nat)(f:Sg->R Fw)(ρ:Sg):sFz i f ρ=f (fz i ρ):=id rfl
@[simp] theorem aLM(i:Nat)(ρ:Sg):fz i ρ=match ρ[i]? with|some (some (.l xs))=>ρ.set i (some (.d (.list xs)))|_=>ρ:=id rfl
@[simp] theorem aHK(i:Nat)(f:Sg->R PyData)(ρ:Sg):f8 i f ρ=match ρ[i]? with|some (some (.l xs))=>(f ρ).bind fun x=>if xs.length < 16777216 then .ok (.nx (ρ.set i (some (.l (xs++[x]))))) else .bad|_=>.bad:=id rfl
@[simp] theorem y7(fs:PyData->Sg->Option Sg)(f:Sg->R PyData)(ρ:Sg):nK fs f ρ=(f ρ).bind fun x=>(tD (fs x ρ)).bind fun ρ'=>.ok (.nx ρ'):=id rfl
@[simp] theorem mO(fi:Sg->R (List PyData))(fs:PyData->Sg->Option Sg)(fb:Sg->R Fw)(ρ:Sg):nH fi fs fb ρ=(fi ρ).bind fun xs=>k6 fs fb xs ρ:=id rfl
@[simp] theorem qT(js:List (Option Nat))(fi:Sg->R (List PyData))(fs:PyData->Sg->Option Sg)(ft:Sg->R Bool)(fe:Sg->R PyData)(ρ:Sg):i7 js fi fs ft fe ρ=(fi ρ).bind fun xs=>compL fs ft fe (kA js ρ) xs:=id rfl
@[simp] theorem aLY(cn:Str)(fs:List Str)(f:Sg->R (List PyData))(ρ:Sg):rO cn fs f ρ=(f ρ).bind fun xs=>if xs.length=fs.length then .ex ⟨cn,fs.zip xs⟩ else .bad:=id rfl
@[simp] theorem mP(i:Nat)(x:PyData)(ρ:Sg):stN i x ρ=some (ρ.set i (some (.d x))):=id rfl
@[simp] theorem xJ(fs:List (PyData->Sg->Option Sg))(xs:List PyData)(ρ:Sg):stT fs (.tuple xs) ρ=stL fs xs ρ:=id rfl
@[simp] theorem tH(ρ:Sg):stL [] [] ρ=some ρ:=id rfl
@[simp] theorem qU(f:PyData->Sg->Option Sg)(fs:List (PyData->Sg->Option Sg))(x:PyData)(xs:List PyData)(ρ:Sg):stL (f::fs) (x::xs) ρ=(f x ρ).bind (stL fs xs):=id rfl
@[simp] theorem y8(ρ:Sg):l6 ρ=.ok true:=id rfl
@[simp] theorem bX(b:Bool):asB (.bool b)=.ok b:=id rfl
@[simp] theorem tJ(f:Sg->R Bool)(ρ:Sg):wY f ρ=(f ρ).bind fun b=>.ok (!b):=id rfl
@[simp] theorem g7(f g:Sg->R Bool)(ρ:Sg):iI f g ρ=(f ρ).bind fun b=>if b=true then g ρ else .ok false:=id rfl
@[simp] theorem aND(f g:Sg->R Bool)(ρ:Sg):bOr f g ρ=(f ρ).bind fun b=>if b=true then .ok true else g ρ:=id rfl
@[simp] theorem aM0(f:Sg->R PyData)(ρ:Sg):aMI f ρ=(f ρ).bind fun x=>(asB x).bind fun b=>.ok (.bool (!b)):=id rfl
@[simp] theorem mQ(f g:Sg->R PyData)(ρ:Sg):i6 f g ρ=(f ρ).bind fun x=>(asB x).bind fun b=>if b=true then g ρ else .ok (.bool false):=id rfl
@[simp] theorem aNE(f g:Sg->R PyData)(ρ:Sg):eOr f g ρ=(f ρ).bind fun x=>(asB x).bind fun b=>if b=true then .ok (.bool true) else g ρ:=id rfl
@[simp] theorem rP(g g':PyData->PyData->R PyData)(fa fb fc:Sg->R PyData)(ρ:Sg):eCh g g' fa fb fc ρ=(fa ρ).bind fun x=>(fb ρ).bind fun y=>(g x y).bind fun z=>(asB z).bind fun k=>if k=true then (fc ρ).bind fun w=>g' y w else .ok (.bool false):=id rfl
@[simp] theorem aCL{α:Type}(g:PyData->Option Int->Option Int->R α)(f:Sg->R PyData)(lo hi:Sg->R (Option Int))(ρ:Sg):eSl g f lo hi ρ=(f ρ).bind fun x=>(lo ρ).bind fun l=>(hi ρ).bind fun h=>g x l h:=id rfl
@[simp] theorem aCM(ρ:Sg):oNo ρ=.ok none:=id rfl
@[simp] theorem aCN(f:Sg->R PyData)(ρ:Sg):oSo f ρ=(f ρ).bind fun x=>match x with | .int i=>.ok (some i)|_=>.bad:=id rfl
@[simp] theorem jA(f:Sg->R PyData)(ρ:Sg):fP f ρ=(f ρ).bind fun x=>match x with | .int j=>eZ 0 j|_=>.bad:=id rfl
@[simp] theorem aAT(f g:Sg->R PyData)(ρ:Sg):pQ f g ρ=(f ρ).bind fun x=>(g ρ).bind fun y=>match x,y with | .int i,.int j=>eZ i j|_,_=>.bad:=id rfl
@[simp] theorem aM1(f:Sg->R PyData)(g:Sg->R (Option Int))(ρ:Sg):aMK f g ρ=(f ρ).bind fun x=>(g ρ).bind fun o=>if o=some (-1) then aJM x else .bad:=id rfl
@[simp] theorem aM2(i:Nat)(g:PyData->PyData->R PyData)(f:Sg->R PyData)(ρ:Sg):aMJ i g f ρ=(eV i ρ).bind fun x=>(f ρ).bind fun y=>(g x y).bind fun z=>.ok (.nx (ρ.set i (some (.d z)))):=id rfl
@[simp] theorem xK(i:Nat)(ρ:Sg):pR i ρ=.ok (.nx (ρ.set i (some (.m [])))):=id rfl
@[simp] theorem aM3(neg:Bool)(i:Nat)(f:Sg->R PyData)(ρ:Sg):qR neg i f ρ=(f ρ).bind fun k=>match ρ[i]? with|some (some (.m kvs))=>if eD k (kvs.map (·.1))=true then .ok (.bool (if neg=true then !eU kvs k else eU kvs k)) else .bad|some (some (.f kvs))=>if eD k (kvs.map (·.1))=true then .ok (.bool (if neg=true then !eU kvs k else eU kvs k)) else .bad|_=>.bad:=id rfl
@[simp] theorem aMQ(i:Nat)(f:Sg->R PyData)(ρ:Sg):aLF i f ρ=match ρ[i]? with|some (some (.m kvs))=>(f ρ).bind fun k=>if eD k (kvs.map (·.1))=true then (match jQ kvs k with|some v=>.ok v|none=>.bad) else .bad|some (some (.f kvs))=>(f ρ).bind fun k=>if eD k (kvs.map (·.1))=true then (match jQ kvs k with|some v=>.ok v|none=>.bad) else .bad|_=>.bad:=id rfl
@[simp] theorem aMR(i:Nat)(f g:Sg->R PyData)(ρ:Sg):pS i f g ρ=(g ρ).bind fun v=>match ρ[i]? with|some (some (.m kvs))=>(f ρ).bind fun k=>if eD k (kvs.map (·.1))=true/\kvs.length<=16777216 then .ok (.nx (ρ.set i (some (.m (putM kvs k v))))) else .bad|_=>.bad:=id rfl
@[simp] theorem fQ(i j:Int):bL (.int i) (.int j)=.ok (.int (i+j)):=id rfl
@[simp] theorem lC(i j:Int):dSub (.int i) (.int j)=.ok (.int (i - j)):=id rfl
@[simp] theorem aM4(i j:Int):aLC (.int i) (.int j)=.ok (.int (i+j)):=id rfl
@[simp] theorem mR(i:Int):dNeg (.int i)=.ok (.int (-i)):=id rfl
@[simp] theorem fJ(i j:Int):dLt (.int i) (.int j)=.ok (.bool (decide (i < j))):=id rfl
@[simp] theorem kK(i j:Int):dLe (.int i) (.int j)=.ok (.bool (decide (i<=j))):=id rfl
@[simp] theorem aFX(i j:Int):dGt (.int i) (.int j)=.ok (.bool (decide (j < i))):=id rfl
@[simp] theorem aNT(i j:Int):dGe (.int i) (.int j)=.ok (.bool (decide (j<=i))):=id rfl
theorem bP{i j:Int}(h:0 < j):dMod (.int i) (.int j)=.ok (.int (i % j)):=if_pos h
theorem eK{i j:Int}(h:0 < j)(h2:j < 18446744073709551616):dDiv (.int i) (.int j)=.ok (.int (i / j)):=if_pos ⟨h,h2⟩
theorem o6{i j:Int}(h : -18446744073709551616 < j)(h2:j < 18446744073709551616):dMul (.int i) (.int j)=.ok (.int (i * j)):=if_pos (.inr ⟨h,h2⟩)
theorem mS{i j:Int}(h : -18446744073709551616 < i)(h2:i < 18446744073709551616):dMul (.int i) (.int j)=.ok (.int (i * j)):=if_pos (.inl ⟨h,h2⟩)
@[simp] theorem gQ(xs:List PyData):dLen (.list xs)=.ok (.int xs.length):=id rfl
@[simp] theorem xL(xs:List PyData):dLen (.tuple xs)=.ok (.int xs.length):=id rfl
theorem mT{z:Str}(h:z.length<=16777216):dLen (.str z)=.ok (.int z.length):=if_pos h
@[simp] theorem aJV(xs:List PyData):dTup (.list xs)=.ok (.tuple xs):=id rfl
@[simp] theorem aNF(xs:List PyData):dTup (.tuple xs)=.ok (.tuple xs):=id rfl
@[simp] theorem aNG(xs:List PyData):aJH (.list xs)=.ok xs:=id rfl
@[simp] theorem aNH(xs:List PyData):aJH (.tuple xs)=.ok xs:=id rfl
@[simp] theorem aNI(i:Int):dInt (.int i)=.ok (.int i):=id rfl
@[simp] theorem aNJ(b:Bool):dInt (.bool b)=.ok (.int (if b=true then 1 else 0)):=id rfl
@[simp] theorem aFY(x:PyData):dIs x .none=.ok (.bool (iF x)):=id rfl
@[simp] theorem aM5(x:PyData):aK9 x .none=.ok (.bool (!iF x)):=id rfl
@[simp] theorem aHL:iF .none=true:=id rfl
@[simp] theorem aM6(xs:List PyData):iF (.tuple xs)=false:=id rfl
@[simp] theorem aM7(i:Int):iF (.int i)=false:=id rfl
@[simp] theorem aM8(i:Str):iF (.str i)=false:=id rfl
theorem jT{α:Type}{xs:List α}{i:Int}{v:α}(h0:0<=i)(h:xs[i.toNat]? = some v):atI xs i=some v:=by
 obtain ⟨j,rfl⟩:∃ j:Nat,i=j:=⟨i.toNat,by omega⟩
 exact gX (j:=j) h
theorem xM{α:Type}(x:α)(t:List α):atI (x::t) 0=some x:=gX (j:=0) rfl
theorem y9{α:Type}(x y:α)(t:List α):atI (x::y::t) 1=some y:=gX (j:=1) rfl
theorem aHM{α:Type}(x y z:α)(t:List α):atI (x::y::z::t) 2=some z:=gX (j:=2) rfl
theorem pT{xs:List PyData}{i:Int}{v:PyData}(h:atI xs i=some v):dIx (.tuple xs) (.int i)=.ok v:=by show (match atI xs i with|some v=>R.ok v|none=>.bad)=_;rw[h]
theorem jB{xs:List PyData}{i:Int}{v:PyData}(h:atI xs i=some v):dIx (.list xs) (.int i)=.ok v:=by show (match atI xs i with|some v=>R.ok v|none=>.bad)=_;rw[h]
theorem aAU{z:Str}{i:Int}{u:Nat}(hz:z.length<=16777216)(h:atI z.cps.toList i=some u):dIx (.str z) (.int i)=.ok (.str ⟨#[u]⟩):=by
 show (if z.length<=sizeLine then match atI z.cps.toList i with|some u=>R.ok (PyData.str ⟨#[u]⟩)|none=>.bad else .bad)=_
 rw[dQ,if_pos hz,h]
@[simp] theorem aCO(x:PyData)(t:List PyData):dIx (.tuple (x::t)) (.int 0)=.ok x:=pT (xM x t)
@[simp] theorem aNK(x y:PyData)(t:List PyData):dIx (.tuple (x::y::t)) (.int 1)=.ok y:=pT (y9 x y t)
@[simp] theorem aNL(x y z:PyData)(t:List PyData):dIx (.tuple (x::y::z::t)) (.int 2)=.ok z:=pT (aHM x y z t)
@[simp] theorem aJW(x:PyData)(t:List PyData):dIx (.list (x::t)) (.int 0)=.ok x:=jB (xM x t)
@[simp] theorem aJX(x y:PyData)(t:List PyData):dIx (.list (x::y::t)) (.int 1)=.ok y:=jB (y9 x y t)
theorem lD{xs:List PyData}(h:xs.length<=16777216):dX (.list xs)=.ok xs:=if_pos h
theorem gR{x y:PyData}(hx:SeqAt.shaped x=true)(hy:SeqAt.shaped y=true):dEq x y=.ok (.bool (PyData.eqv x y)):=if_pos ⟨hx,hy⟩
@[simp] theorem aNM(T:String)(i:Int):iK T (.int i)=.ok (.bool (iJ "int" T)):=id rfl
@[simp] theorem aNN(T:String)(i:Str):iK T (.str i)=.ok (.bool (iJ "str" T)):=id rfl
@[simp] theorem aNO(T:String)(i:List PyData):iK T (.tuple i)=.ok (.bool (iJ "tuple" T)):=id rfl
@[simp] theorem aNP(T:String)(i:List PyData):iK T (.list i)=.ok (.bool (iJ "list" T)):=id rfl
@[simp] theorem aNQ(T:String)(i:Bool):iK T (.bool i)=.ok (.bool (iJ "bool" T)):=id rfl
@[simp] theorem aNR(T:String):iK T .none=.ok (.bool (iJ "NoneType" T)):=id rfl
theorem aLN{xs:List PyData}{lo hi:Option Int}(h:¬ (HT.sIx xs.length 0 lo=0/\HT.sIx xs.length xs.length hi=xs.length)):dSl (.tuple xs) lo hi=.ok (.tuple (k8 xs lo hi)):=by
 unfold dSl;exact if_pos h
theorem aLO(xs:List PyData)(lo hi:Option Int):dSl (.list xs) lo hi=.ok (.list (k8 xs lo hi)):=id rfl
theorem aJY{xs ys:List PyData}(h:xs.isEmpty=false)(h2:xs.length+ys.length<=16777216):bL (.tuple xs) (.tuple ys)=.ok (.tuple (xs++ys)):=by
 unfold bL;exact if_pos ⟨h,by rw[dQ];exact h2⟩
theorem aJZ{x y:Str}(h:x.length+y.length<=16777216):bL (.str x) (.str y)=.ok (.str (x++y)):=by
 unfold bL;exact if_pos (by rw[dQ];exact h)
theorem nM{α:Type}{fs:PyData->Sg->Option Sg}{fe:Sg->R PyData}{ρ0:Sg}{d:α->PyData}{g:α->PyData}:∀ {xs:List α},(∀ x∈xs,∃ ρ1,fs (d x) ρ0=some ρ1/\fe ρ1=.ok (g x))->compL fs l6 fe ρ0 (xs.map d)=.ok (xs.map g)
 | [],_=>rfl
 | x::t,h=>by
  obtain ⟨ρ1,h1,h2⟩:=h x List.mem_cons_self
  rw[List.map_cons]
  unfold compL
  rw[h1,nM fun y hy=>h y (List.mem_cons_of_mem _ hy),fX,R.bind_ok,y8,R.noEx_ok,R.bind_ok,if_pos rfl,h2];rfl
theorem lE{α:Type}{fs:PyData->Sg->Option Sg}{fb:Sg->R Fw}{d:α->PyData}{xs:List α}{ρ:Sg}(J:Nat->Sg->Prop)(h0:J 0 ρ)(hs:∀ (i:Nat) (x:α) (ρ:Sg),xs[i]? = some x->J i ρ->∃ ρ1 ρ2,fs (d x) ρ=some ρ1/\(fb ρ1=.ok (.nx ρ2)\/fb ρ1=.ok (.ct ρ2))/\J (i+1) ρ2) :
  ∃ ρ',k6 fs fb (xs.map d) ρ=.ok (.nx ρ')/\J xs.length ρ':=by
 induction xs generalizing ρ J with
 | nil=>exact ⟨ρ,rfl,h0⟩
 | cons x t ih=>
  obtain ⟨ρ1,ρ2,h1,h2,h3⟩:=hs 0 x ρ rfl h0
  obtain ⟨ρ',q1,q2⟩:=ih (ρ:=ρ2) (fun i=>J (i+1)) h3 (fun i y ρ hy hj=>hs (i+1) y ρ (by simpa using hy) hj)
  refine ⟨ρ',?_,q2⟩
  rw[List.map_cons]
  unfold k6
  rw[h1,fX,R.bind_ok]
  rcases h2 with h2|h2<;>rw[h2]<;>exact q1
end Fl
namespace Fl
open PySem L2 PyProof.Rows
theorem o7{t:Sg->R Bool}{b:Sg->R Fw}{ρ ρ':Sg}(h1:t ρ=.ok true)(h2:b ρ=.ok (.nx ρ')):cB t b ρ=cB t b ρ':=by
 rw[oV,h1,R.bind_ok,if_pos rfl,h2];rfl
theorem o8{t:Sg->R Bool}{b:Sg->R Fw}{ρ:Sg}{a:A}(h1:t ρ=.ok true)(h2:b ρ=.ok (.rt a)):cB t b ρ=.ok (.rt a):=by
 rw[oV,h1,R.bind_ok,if_pos rfl,h2];rfl
theorem o9{t:Sg->R Bool}{b:Sg->R Fw}{ρ:Sg}(h1:t ρ=.ok false):cB t b ρ=.ok (.nx ρ):=by
 rw[oV,h1,R.bind_ok,if_neg (by decide)]
def been{α:Type}(d:α->PyData)(ps:List α):List (PyData×PyData):=ps.map fun p=>(d p,.bool true)
theorem uK{α:Type}(d:α->PyData)(ps:List α):(been d ps).map (·.1)=ps.map d:=by unfold been;rw[List.map_map];rfl
theorem qV{α:Type}{d:α->PyData}(hd:∀ a b,d a=d b->a=b){ps:List α}{p:α}:eU (been d ps) (d p)=true↔p∈ps:=by
 rw[w9,uK,List.mem_map]
 exact ⟨fun ⟨q,h1,h2⟩=>hd q p h2▸h1,fun h=>⟨p,h,rfl⟩⟩
theorem pA{α:Type}{d:α->PyData}(hd:∀ a b,d a=d b->a=b){ps:List α}{p:α}(h:p∉ps):eU (been d ps) (d p)=false:=by
 cases q:eU (been d ps) (d p) with
 | false=>rfl
 | true=>exact absurd ((qV hd).mp q) h
theorem nN{α:Type}{d:α->PyData}(hd:∀ a b,d a=d b->a=b){ps:List α}{p:α}(h:p∉ps):putM (been d ps) (d p) (.bool true)=been d (ps++[p]):=by
 unfold putM
 rw[pA hd h,if_neg (by decide)]
 unfold been
 rw[List.map_append];rfl
theorem fZ{α:Type}{d:α->PyData}(hk:∀ a,sU (d a)=true)(ps:List α)(p:α):eD (d p) ((been d ps).map (·.1))=true:=by
 unfold eD
 rw[uK,hk,Bool.true_and,Bool.or_eq_true,List.all_eq_true]
 refine .inl fun x hx=>?_
 obtain ⟨q,_,rfl⟩:=List.mem_map.mp hx
 exact hk q
theorem nO{α:Type}(d:α->PyData)(ps:List α):(been d ps).length=ps.length:=by unfold been;rw[List.length_map]
def prD(p:Int×Int):PyData:=.tuple [.int p.1,.int p.2]
theorem g8(a b:Int×Int)(h:prD a=prD b):a=b:=by
 unfold prD at h
 injection h with h
 injection h with h1 h2
 injection h2 with h2 _
 injection h1 with h1
 injection h2 with h2
 exact Prod.ext h1 h2
theorem iS(a:Int×Int):sU (prD a)=true:=rfl
end Fl
namespace Mc
open PySem L2 PyProof.Rows Fl
theorem aHN{r:Rw}{rs:List Rw}:i8 [.d (cC (r::rs))]=.ok (.d (.int r.c.length)):=by
 simp[i8,nL,cC,c9]
theorem aE0{n:Nat}(h1:1<=n)(h3:n<=3)(z:Str):∀ (cs:List Nat) (k:Nat) (u3 u4:Option A),
  k6 (stT [stN 3,stN 4]) (sIf (e1 asB (e2 dNin (rV 4) (rV 2))) (rO "NoStrip" ["at"] (aB (eV 3) aS)) sNx) (iL k (cs.map fun u=>.str ⟨#[u]⟩)) [some (.d (.int n)),some (.d (.str z)),some (.d (.str (Txt.slice "abc" none (some (n:Int))))),u3,u4] =
  match jY n k cs with
  | some i=>.ex ⟨"NoStrip",[("at",.int i)]⟩
  | none=>.ok (.nx [some (.d (.int n)),some (.d (.str z)),some (.d (.str (Txt.slice "abc" none (some (n:Int))))),if cs=[] then u3 else some (.d (.int ((k+cs.length - 1:Nat):Int))),if cs=[] then u4 else (cs.getLast?.map fun u=>A.d (.str ⟨#[u]⟩))]):=by
 intro cs
 induction cs with
 | nil=>intro k u3 u4;rfl
 | cons c t ih=>
  intro k u3 u4
  have hin:dNin (.str ⟨#[c]⟩) (.str (Txt.slice "abc" none (some (n:Int))))=.ok (.bool (!dU n c)):=by
   show R.ok (PyData.bool (!_))=_
   rw[aD1 h1 h3]
  rw[List.map_cons,iL]
  unfold k6
  rw[rH]
  cases hs:dU n c with
  | false=>simp[hin,hs]
  | true=>
   simp[hin,hs,ih]
   cases jY n (k+1) t with
   | some i=>rfl
   | none=>
    simp
    cases t with
    | nil=>simp
    | cons c' t'=>simp<;>try omega
theorem aLP{n:Nat}(h1:1<=n)(h3:n<=3){z:Str}(hz:z.cps.toList.length<=16777216):gO [.d (.int n),.d (.str z)]=match jY n 0 z.cps.toList with
  | some i=>.ex ⟨"NoStrip",[("at",.int i)]⟩
  | none=>.ok (.d (.str z)):=by
 have hs:dSl (.str "abc") none (some (n:Int))=.ok (.str (Txt.slice "abc" none (some (n:Int)))):=by
  show (if ("abc":Str).length<=16777216 then R.ok _ else .bad)=_
  exact if_pos (by decide)
 have hn:vT (.str z)=.ok (iL 0 (z.cps.toList.map fun u=>.str ⟨#[u]⟩)):=by
  show (if z.cps.toList.length<=16777216 then R.ok _ else .bad)=_
  exact if_pos hz
 simp only[gO,lA,dC,bK,c6,dE,aCL,b6,aCM,aCN,R.bind_ok,bW,mO,b7,kI,List.map_cons,List.map_nil,List.cons_append,List.nil_append,List.length_cons,List.length_nil]
 simp only[List.replicate,List.getElem?_cons_zero,List.getElem?_cons_succ,hs,R.bind_ok,List.set_cons_succ,List.set_cons_zero,hn,aE0 h1 h3]
 cases jY n 0 z.cps.toList with
 | some i=>rfl
 | none=>rfl
theorem Mach.cons{rs:List Rw}{sg:Nat}(M:Mach rs sg):∃ r t,rs=r::t/\r.c.length=sg:=by
 cases rs with
 | nil=>have:=M.len;simp at this
 | cons r t=>exact ⟨r,t,rfl,(M.row r List.mem_cons_self).2⟩
theorem aJ0{rs:List Rw}{sg:Nat}(M:Mach rs sg){z:Str}(hz:z.cps.toList.length<=16777216):gP [.d (cC rs),.d (.str z)]=match jY sg 0 z.cps.toList with
  | some i=>.ex ⟨"NoStrip",[("at",.int i)]⟩
  | none=>.ok (.d (.str z)):=by
 obtain ⟨r,t,rfl,hr⟩:=M.cons
 simp[gP,o4,aHN,hr,aLP M.sg1 M.sg3 hz]
 cases jY sg 0 z.cps.toList<;>rfl
theorem aE1{rs:List Rw}{sg:Nat}(M:Mach rs sg){z:Str}(S:cT sg z.cps.toList):gP [.d (cC rs),.d (.str z)]=.ok (.d (.str z)):=by
 rw[aJ0 M (by have:=S.1;omega),wO S.2]
theorem j7{n:Nat}(h:n<=16777216):eZ 0 (n:Int)=.ok ((List.range n).map fun i:Nat=>.int (i:Int)):=by
 unfold eZ
 rw[if_pos (by omega)]
 unfold kZ
 simp
theorem aCP(z y:Str):oX (.str z) (.str y)=match Builtin.Str.occurrences z y 0 z.length 1 with|i::_=>R.ok (PyData.int i)|[]=>.bad:=rfl
theorem zA{c:Nat}(h:dU 3 c=true):oX (.str "abc") (.str ⟨#[c]⟩)=.ok (.int ((c - 97:Nat):Int)):=by
 obtain ⟨r,e⟩:=aB1 h
 rw[aCP,e]
theorem xN{n c:Nat}(hn:n<=3)(h:dU n c=true):dU 3 c=true:=decide_eq_true (by have:=of_decide_eq_true h;omega)
end Mc
namespace Mc
open PySem L2 PyProof.Rows Fl
theorem dB(s:Int×Int):SeqAt.shaped (prD s)=true:=id rfl
theorem kL(i:Int):SeqAt.shaped (.int i)=true:=id rfl
theorem aJ1(i j:Int):PyData.eqv (.int i) (.int j)=decide (i=j):=by
 rw[PyData.eqv.eq_5]
 by_cases h:i=j
 · simp [h]
 · simp [h]
theorem cZ(i j:Int):dEq (.int i) (.int j)=.ok (.bool (decide (i=j))):=by rw[gR (kL i) (kL j),aJ1]
end Mc
namespace Mc
open PySem L2 PyProof.Rows Fl
end Mc
namespace Mc
open PySem L2 PyProof.Rows Fl
noncomputable def j0:Sg->R Fw:=(aN (a8 2 (vD (eC (.int 0))))
 (aN (sIf (e1 asB (e2 dGt (e1 dLen (rV 0)) (eC (.int 0)))) (a8 2 (vD (e2 dIx (rV 0) (e2 dMod (rV 1) (e1 dLen (rV 0)))))) sNx)
 (aN (a8 3 (vD (e2 dMod (e2 dMul (e2 bL (e2 bL (e2 dMod (rV 2) (eC (.int 2147483647))) (e2 dMul (eC (.int 7919)) (rV 1))) (eC (.int 1))) (eC (.int 48271))) (eC (.int 2147483647)))))
 (bN (vD (e2 bL (e2 dMul (e2 dDiv (rV 2) (eC (.int 2147483647))) (eC (.int 2147483659))) (e2 dMod (e2 bL (e2 dMul (rV 3) (eC (.int 69621))) (e2 dMul (eC (.int 104729)) (rV 1))) (eC (.int 2147483659)))))))))
noncomputable def bC:List A->R A:=fnF 4 j0
noncomputable def kM:Sg->R Fw:=(aN (sIf (e1 asB (e2 dEq (e2 dMod (rV 0) (eC (.int 3))) (eC (.int 0)))) (bN (vD (e2 dIx (eL (fG (aB (eC (.str "by")) (aB (eC (.str "out")) aS)))) (e2 dMod (e2 dDiv (rV 0) (eC (.int 3))) (eC (.int 2)))))) sNx)
 (bN (vD (e2 dMod (e2 dDiv (rV 0) (eC (.int 3))) (rV 1)))))
noncomputable def fA:List A->R A:=fnF 2 kM
noncomputable def iO:Sg->R Fw:=(aN (a8 3 (vD (e2 dMod (rV 0) (e2 bL (rV 1) (eC (.int 2))))))
 (aN (a8 0 (vD (e2 dDiv (rV 0) (e2 bL (rV 1) (eC (.int 2))))))
 (aN (fH 4 (fG aS))
 (aN (nH (fP (rV 2)) (stN 5) (aN (f8 4 (dF (aB (e2 dMod (e2 dDiv (rV 0) (eC (.int 2))) (rV 1)) (aB (e2 dSub (eC (.int 1)) (e2 dMul (e2 dMod (rV 0) (eC (.int 2))) (eC (.int 2)))) aS))))
 (a8 0 (vD (e2 dDiv (rV 0) (e2 dMul (eC (.int 2)) (rV 1)))))))
 (aN (fH 6 (fG (aB (eV 3) (aB (e2 dMod (rV 0) (e2 bL (rV 1) (eC (.int 2)))) aS))))
 (aN (fH 6 (i7 [none,some 1] (e1 dX (rV 6)) (stN 0) l6 (eIf (e1 asB (e2 dGe (rV 0) (rV 1))) (e2 dIx (eL (fG (aB (eC (.str "by")) (aB (eC (.str "out")) aS)))) (e2 dSub (rV 0) (rV 1))) (eV 0))))
 (bN (vD (dF (aB (e2 dIx (rV 6) (eC (.int 0))) (aB (e1 dTup (rV 4)) (aB (e2 dIx (rV 6) (eC (.int 1))) aS))))))))))))
noncomputable def dY:List A->R A:=fnF 7 iO
noncomputable def iP:Sg->R Fw:=(aN (fH 3 (fG aS))
 (aN (nH (fP (e2 bL (rV 2) (eC (.int 2)))) (stN 4) (aN (a8 0 (vD (e2 dMod (e2 bL (e2 dMul (rV 0) (eC (.int 48271))) (eC (.int 7919))) (eC (.int 2147483647)))))
 (f8 3 (e2 dDiv (rV 0) (eC (.int 64))))))
 (aN (a8 5 (vD (e1 dTup (eL (i7 [none,some 1] (e1 dX (eSl dSl (rV 3) (oSo (eC (.int 2))) oNo)) (stN 0) l6 (dF (aB (e2 dMod (rV 0) (rV 1)) (aB (e2 dSub (eC (.int 1)) (e2 dMul (e2 dDiv (e2 dMod (e2 dDiv (rV 0) (eC (.int 64))) (eC (.int 3))) (eC (.int 2))) (eC (.int 2)))) aS))))))))
 (bN (vD (dF (aB (eA (bF 2 fA (aB (vD (e2 dIx (rV 3) (eC (.int 0)))) (aB (vV 1) aS)))) (aB (eV 5) (aB (eA (bF 2 fA (aB (vD (e2 dIx (rV 3) (eC (.int 1)))) (aB (vV 1) aS)))) aS)))))))))
noncomputable def dM:List A->R A:=fnF 6 iP
noncomputable def jU:Sg->R Fw:=(aN (fH 4 (fG aS))
 (aN (nH (fP (rV 2)) (stN 5) (sIf (iI (e1 asB (e2 dLt (e2 bL (rV 1) (rV 5)) (e1 dLen (rV 0)))) (e1 asB (e2 dEq (e2 dMod (e2 dIx (rV 0) (eC (.int 0))) (eC (.int 2))) (eC (.int 1))))) (f8 4 (eA (bF 3 dY (aB (vD (e2 dIx (rV 0) (e2 bL (rV 1) (rV 5)))) (aB (vV 2) (aB (vV 3) aS)))))) (aN (a8 6 (bF 3 dM (aB (vD (e2 dMod (eA (bF 2 bC (aB (vV 0) (aB (vD (e2 bL (rV 1) (rV 5))) aS)))) (eC (.int 2147483647)))) (aB (vV 2) (aB (vV 3) aS)))))
 (aN (sIf (iI (e1 asB (e2 dEq (rV 5) (eC (.int 0)))) (iI (e1 asB (e1 (iK "str") (e2 dIx (rV 6) (eC (.int 0))))) (e1 asB (e2 dGt (e2 dMod (e2 dDiv (eA (bF 2 bC (aB (vV 0) (aB (vV 1) aS)))) (eC (.int 8))) (eC (.int 8))) (eC (.int 0)))))) (a8 6 (vD (e2 bL (dF (aB (e2 dMod (e2 dDiv (eA (bF 2 bC (aB (vV 0) (aB (vV 1) aS)))) (eC (.int 64))) (rV 2)) aS)) (eSl dSl (rV 6) (oSo (eC (.int 1))) oNo)))) sNx)
 (f8 4 (eV 6))))))
 (bN (vD (e1 dTup (rV 4))))))
noncomputable def fR:List A->R A:=fnF 7 jU
noncomputable def gS:Sg->R Fw:=(aN (sIf (iI (e1 asB (e2 dLt (rV 1) (e1 dLen (rV 0)))) (e1 asB (e2 dEq (e2 dMod (e2 dIx (rV 0) (eC (.int 0))) (eC (.int 2))) (eC (.int 1))))) (aN (a8 4 (vD (e2 dIx (rV 0) (rV 1))))
 (aN (a8 5 (vD (eC (.str ""))))
 (aN (nH (fP (rV 2)) (stN 6) (aN (a8 5 (vD (e2 bL (rV 5) (e2 dIx (eC (.str "abc")) (e2 dMod (rV 4) (rV 3))))))
 (a8 4 (vD (e2 dDiv (rV 4) (rV 3))))))
 (bN (vV 5))))) sNx)
 (bN (vD (e2 vS (eC (.str "")) (eL (i7 [none,some 0,some 1,some 3] (fP (rV 2)) (stN 0) l6 (e2 dIx (eC (.str "abc")) (e2 dMod (eA (bF 2 bC (aB (vV 1) (aB (vD (e2 bL (rV 2) (rV 0))) aS)))) (rV 3)))))))))
noncomputable def eR:List A->R A:=fnF 7 gS
noncomputable def lF:Sg->R Fw:=(aN (a8 1 (vD (e2 bL (eC (.int 1)) (e2 dMod (eA (bF 2 bC (aB (vV 0) (aB (vD (eC (.int 0))) aS)))) (eC (.int 5))))))
 (aN (a8 2 (vD (e2 bL (eC (.int 1)) (e2 dMod (eA (bF 2 bC (aB (vV 0) (aB (vD (eC (.int 1))) aS)))) (eC (.int 3))))))
 (aN (a8 3 (vD (e2 dMod (eA (bF 2 bC (aB (vV 0) (aB (vD (eC (.int 2))) aS)))) (e2 dIx (eL (fG (aB (eC (.int 8)) (aB (eC (.int 8)) (aB (eC (.int 25)) (aB (eC (.int 57)) aS)))))) (e2 dMod (e2 dDiv (eA (bF 2 bC (aB (vV 0) (aB (vD (eC (.int 1))) aS)))) (eC (.int 3))) (eC (.int 4)))))))
 (bN (vD (dF (aB (eA (bF 4 fR (aB (vV 0) (aB (vD (eC (.int 6))) (aB (vV 1) (aB (vV 2) aS)))))) (aB (eA (bF 4 eR (aB (vV 0) (aB (vD (eC (.int 11))) (aB (vV 3) (aB (vV 2) aS)))))) aS))))))))
noncomputable def fS:List A->R A:=fnF 4 lF
noncomputable def lG:Sg->R Fw:=(bN (vD (i6 (e1 (iK "bool") (rV 0)) (e2 dEq (rV 0) (rV 1)))))
noncomputable def fU:List A->R A:=fnF 2 lG
noncomputable def l7:Sg->R Fw:=(aN (nK (stT [(stN 3),(stN 4)]) (eV 2))
 (aN (nK (stT [(stN 5),(stN 6),(stN 7)]) (e2 dIx (rV 0) (rV 4)))
 (aN (sIf (bOr (e1 asB (e2 dEq (rV 3) (eC (.int 0)))) (e1 asB (e2 dGt (rV 3) (e1 dLen (rV 1))))) (aN (a8 8 (vD (e2 dIx (eL (fG (aB (eV 5) (aB (eV 7) aS)))) (e1 dInt (e2 dGt (rV 3) (eC (.int 0)))))))
 (aN (sIf (e1 asB (e1 (iK "str") (rV 8))) (bN (vD (eC .none))) sNx)
 (bN (vD (dF (aB (e2 dIx (eL (fG (aB (eC (.int 1)) (aB (e1 dLen (rV 1)) aS)))) (e1 dInt (e2 dGt (rV 3) (eC (.int 0))))) (aB (eV 8) aS))))))) sNx)
 (aN (nK (stT [(stN 8),(stN 9)]) (e2 dIx (rV 6) (e2 oX (eC (.str "abc")) (e2 dIx (rV 1) (e2 dSub (rV 3) (eC (.int 1)))))))
 (bN (vD (dF (aB (e2 bL (rV 3) (rV 9)) (aB (eV 8) aS)))))))))
noncomputable def eN:List A->R A:=fnF 10 l7
noncomputable def nW:Sg->R Fw:=(aN (fH 2 (fG (aB (dF (aB (eC (.int 0)) (aB (eC (.int 0)) aS))) aS)))
 (aN (pR 3)
 (aN (cB (e1 asB (qR true 3 (e2 dIx (rV 2) (e1 dNeg (eC (.int 1)))))) (aN (pS 3 (e2 dIx (rV 2) (e1 dNeg (eC (.int 1)))) (eC (.bool true)))
 (aN (a8 4 (bF 3 eN (aB (vV 0) (aB (vV 1) (aB (vD (e2 dIx (rV 2) (e1 dNeg (eC (.int 1))))) aS)))))
 (aN (sIf (e1 asB (e2 dIs (rV 4) (eC .none))) (sFz 2 (bN (vV 2))) sNx)
 (f8 2 (eV 4))))))
 (sFz 2 (bN (vV 2))))))
noncomputable def nX:List A->R A:=fnF 5 nW
end Mc
namespace Mc
open PySem L2 PyProof.Rows Fl
def dZ(ns:List Int):PyData:=.list (ns.map .int)
theorem iT(ns:List Int):dLen (dZ ns)=.ok (.int ns.length):=by unfold dZ;rw[gQ,List.length_map]
theorem pB{ns:List Int}{i:Int}(h0:0<=i)(h1:i < ns.length):∃ v,dIx (dZ ns) (.int i)=.ok (.int v):=by
 refine ⟨ns[i.toNat]'(by omega),jB (jT h0 ?_)⟩
 rw[List.getElem?_map,List.getElem?_eq_getElem (by omega)];rfl
theorem lH(ns:List Int)(k:Int):∃ v,bC [.d (dZ ns),.d (.int k)]=.ok (.d (.int v)):=by
 by_cases h:(0:Int) < ns.length
 ·obtain ⟨v,hv⟩:=pB (ns:=ns) (i:=k % (ns.length:Int)) (Int.emod_nonneg _ (by omega)) (Int.emod_lt_of_pos _ h)
  have hm:dMod (.int k) (.int (ns.length:Int))=.ok (.int (k % (ns.length:Int))):=bP h
  have hd:0 < ns.length:=by omega
  refine ⟨v / 2147483647 * 2147483659+((v % 2147483647+7919 * k+1) * 48271 % 2147483647 * 69621+104729 * k) % 2147483659,?_⟩
  unfold bC j0
  simp[iT,hd,hm,hv,bP,o6,mS,eK]
 ·have hd:¬ 0 < ns.length:=by omega
  refine ⟨((7919 * k+1) * 48271 % 2147483647 * 69621+104729 * k) % 2147483659,?_⟩
  unfold bC j0
  simp[iT,hd,bP,o6,mS,eK]
theorem aJ2(x y:PyData)(i:Int):∃ z,dIx (.list [x,y]) (.int (i % 2))=.ok z/\(z=x\/z=y):=by
 rcases Int.emod_two_eq i with h|h
 · rw [h]; exact ⟨x, aJW _ _, .inl rfl⟩
 · rw [h]; exact ⟨y, aJX _ _ _, .inr rfl⟩
theorem aFZ(x:Int){n:Int}(hn:0 < n):∃ t:Tn,fA [.d (.int x),.d (.int n)]=.ok (.d t.d)/\t.good n:=by
 by_cases h:x % 3=0
 ·obtain ⟨z,hz,hzz⟩:=aJ2 (.str "by") (.str "out") (x / 3)
  have hd:decide (x % 3=0)=true:=decide_eq_true h
  have e:fA [.d (.int x),.d (.int n)]=.ok (.d z):=by
   unfold fA kM
   simp[bP,eK,cZ,hd,hz]
  rcases hzz with rfl|rfl
  ·exact ⟨.w "by",e,.inl rfl⟩
  ·exact ⟨.w "out",e,.inr rfl⟩
 ·have hd:decide (x % 3=0)=false:=decide_eq_false h
  refine ⟨.n (x / 3 % n),?_,Int.emod_nonneg _ (by omega),Int.emod_lt_of_pos _ hn⟩
  unfold fA kM
  simp[bP,eK,cZ,hd,hn]
  rfl
theorem rQ{n:Nat}(h:n<=16777216):eZ 0 (n:Int)=.ok ((List.range n).map fun i:Nat=>.int (i:Int)):=j7 h
theorem zB(x:Int){n:Int}{sg:Nat}(hn:0 < n)(hs:sg<=1000):∃ r:Rw,dM [.d (.int x),.d (.int n),.d (.int sg)]=.ok (.d (c9 r))/\r.good n/\r.c.length=sg:=by
 have hr:eZ 0 ((sg:Int)+2)=.ok ((List.range (sg+2)).map fun i:Nat=>.int (i:Int)):=by
  have:=j7 (n:=sg+2) (by omega)
  rw[show (((sg+2:Nat)):Int)=(sg:Int)+2 by omega] at this
  exact this
 obtain ⟨ρ',hf,y,ps,u4,hp,rfl⟩:=lE (fs:=stN 4) (fb:=aN (a8 0 (vD (e2 dMod (e2 bL (e2 dMul (rV 0) (eC (.int 48271))) (eC (.int 7919))) (eC (.int 2147483647))))) (f8 3 (e2 dDiv (rV 0) (eC (.int 64)))))
  (d:=fun i:Nat=>.int (i:Int)) (xs:=List.range (sg+2)) (ρ:=[some (.d (.int x)),some (.d (.int n)),some (.d (.int sg)),some (.l []),none,none])
  (fun i ρ=>∃ (y:Int) (ps:List Int) (u4:Option A),ps.length=i/\ρ=[some (.d (.int y)),some (.d (.int n)),some (.d (.int sg)),some (.l (ps.map .int)),u4,none]) ⟨x,[],none,rfl,rfl⟩
  (fun i k ρ hk hρ=>by
   obtain ⟨y,ps,u4,hp,rfl⟩:=hρ
   have hi:i < sg+2:=by have:=(List.getElem?_eq_some_iff.mp hk).1;simpa using this
   refine ⟨_,_,rfl,.inl ?_,(y * 48271+7919) % 2147483647,ps++[(y * 48271+7919) % 2147483647 / 64],some (.d (.int k)),by simp[hp],rfl⟩
   have hl:(ps.map PyData.int).length < 16777216:=by rw[List.length_map,hp];omega
   simp[o6,mS,bP,eK,hl]
   omega)
 rw[List.length_range] at hp
 obtain ⟨p0,p1,qs,rfl,hq⟩:∃ p0 p1 qs,ps=p0::p1::qs/\qs.length=sg:=by
  match ps,hp with
  | p0::p1::qs,hp=>exact ⟨p0,p1,qs,rfl,by simpa using hp⟩
 have hcut:dSl (.list ((p0::p1::qs).map .int)) (some 2) none=.ok (.list (qs.map .int)):=by
  show R.ok (PyData.list (k8 _ _ _))=_
  unfold k8 HT.sIx
  simp
  rw[List.take_of_length_le (by simp)]
 obtain ⟨t0,e0,g0⟩:=aFZ p0 hn
 obtain ⟨t1,e1',g1⟩:=aFZ p1 hn
 have hc:=nM (fs:=stN 0) (fe:=dF (aB (e2 dMod (rV 0) (rV 1)) (aB (e2 dSub (eC (.int 1)) (e2 dMul (e2 dDiv (e2 dMod (e2 dDiv (rV 0) (eC (.int 64))) (eC (.int 3))) (eC (.int 2))) (eC (.int 2)))) aS))) (ρ0:=[none,some (.d (.int n))]) (d:=PyData.int) (g:=fun q=>gH (q % n,1 - q / 64 % 3 / 2 * 2)) (xs:=qs) fun q _=>⟨_,rfl,by simp[bP,eK,o6,hn,gH]⟩
 have hi:dX (.list (qs.map .int))=.ok (qs.map .int):=lD (by rw[List.length_map];omega)
 refine ⟨⟨t0,qs.map fun q=>(q % n,1 - q / 64 % 3 / 2 * 2),t1⟩,?_,⟨g0,g1,fun c hc=>?_⟩,by simpa using hq⟩
 ·unfold dM iP
  simp only[dC,List.map_cons,List.map_nil,List.cons_append,List.nil_append,List.length_cons,List.length_nil,List.replicate,bK,iN,jS,c8,R.bind_ok]
  simp[hr]
  rw[hf]
  simp at hcut hi hc
  simp[hcut,hi,kA,hc,e0,e1',c9]
 ·obtain ⟨q,_,rfl⟩:=List.mem_map.mp hc
  refine ⟨Int.emod_nonneg _ (by omega),Int.emod_lt_of_pos _ hn,?_⟩
  simp only
  omega
end Mc
namespace Mc
open PySem L2 PyProof.Rows Fl
theorem aHO(x:Int){n:Int}{sg:Nat}(hn:0 < n)(hn2:n<=1000)(hs:sg<=1000):∃ r:Rw,dY [.d (.int x),.d (.int n),.d (.int sg)]=.ok (.d (c9 r))/\r.good n/\r.c.length=sg:=by
 have hr:=j7 (n:=sg) (by omega)
 have hn3:(0:Int) < n+2:=by omega
 have hn4:n+2 < 18446744073709551616:=by omega
 have h2n:(0:Int) < 2 * n:=by omega
 have h2n':2 * n < 18446744073709551616:=by omega
 obtain ⟨ρ',hf,y,cs,u5,hp,hg,rfl⟩:=lE (fs:=stN 5) (fb:=aN (f8 4 (dF (aB (e2 dMod (e2 dDiv (rV 0) (eC (.int 2))) (rV 1)) (aB (e2 dSub (eC (.int 1)) (e2 dMul (e2 dMod (rV 0) (eC (.int 2))) (eC (.int 2)))) aS)))) (a8 0 (vD (e2 dDiv (rV 0) (e2 dMul (eC (.int 2)) (rV 1))))))
  (d:=fun i:Nat=>.int (i:Int)) (xs:=List.range sg) (ρ:=[some (.d (.int (x / (n+2)))),some (.d (.int n)),some (.d (.int sg)),some (.d (.int (x % (n+2)))),some (.l []),none,none])
  (fun i ρ=>∃ (y:Int) (cs:List (Int×Int)) (u5:Option A),cs.length=i/\(∀ c∈cs,qO n c)/\ρ=[some (.d (.int y)),some (.d (.int n)),some (.d (.int sg)),some (.d (.int (x % (n+2)))),some (.l (cs.map gH)),u5,none]) ⟨x / (n+2),[],none,rfl,fun c hc=>by simp at hc,rfl⟩
  (fun i k ρ hk hρ=>by
   obtain ⟨y,cs,u5,hp,hg,rfl⟩:=hρ
   have hi:i < sg:=by have:=(List.getElem?_eq_some_iff.mp hk).1;simpa using this
   have hl:(cs.map gH).length < 16777216:=by rw[List.length_map,hp];omega
   refine ⟨_,_,rfl,.inl ?_,y / (2 * n),cs++[(y / 2 % n,1 - y % 2 * 2)],some (.d (.int k)),by simp[hp],fun c hc=>?_,rfl⟩
   ·have hl':cs.length < 16777216:=by omega
    simp[o6,mS,bP,eK,hn,h2n,h2n',gH,hl']
   ·rcases List.mem_append.mp hc with z|z
    ·exact hg c z
    ·rw[List.mem_singleton.mp z]
     refine ⟨Int.emod_nonneg _ (by omega),Int.emod_lt_of_pos _ hn,?_⟩
     simp only;omega)
 rw[List.length_range] at hp
 have key:∀ e:Int,0<=e->e < n+2->∃ t:Tn,(eIf (e1 asB (e2 dGe (rV 0) (rV 1))) (e2 dIx (eL (fG (aB (eC (.str "by")) (aB (eC (.str "out")) aS)))) (e2 dSub (rV 0) (rV 1))) (eV 0)) [some (.d (.int e)),some (.d (.int n))]=.ok t.d/\t.good n:=fun e h0 h1=>by
  by_cases h:n<=e
  ·obtain rfl|rfl:e=n\/e=n+1:=by omega
   ·exact ⟨.w "by",by simp[Tn.d],.inl rfl⟩
   ·exact ⟨.w "out",by simp[Tn.d,show n+1 - n=1 by omega,show n<=n+1 by omega],.inr rfl⟩
  ·exact ⟨.n e,by simp[Tn.d,h],h0,by omega⟩
 obtain ⟨t0,e0,g0⟩:=key (x % (n+2)) (Int.emod_nonneg _ (by omega)) (Int.emod_lt_of_pos _ hn3)
 obtain ⟨t1,e1',g1⟩:=key (y % (n+2)) (Int.emod_nonneg _ (by omega)) (Int.emod_lt_of_pos _ hn3)
 have hc:compL (stN 0) l6 (eIf (e1 asB (e2 dGe (rV 0) (rV 1))) (e2 dIx (eL (fG (aB (eC (.str "by")) (aB (eC (.str "out")) aS)))) (e2 dSub (rV 0) (rV 1))) (eV 0)) [none,some (.d (.int n))] [.int (x % (n+2)),.int (y % (n+2))]=.ok [t0.d,t1.d]:=by
  simp only[compL,mP,List.set_cons_zero,fX,R.bind_ok,y8,R.noEx_ok,if_true,e0,e1']
 have hi:∀ a b:PyData,dX (.list [a,b])=.ok [a,b]:=fun a b=>lD (by simp)
 refine ⟨⟨t0,cs,t1⟩,?_,⟨g0,g1,hg⟩,hp⟩
 unfold dY iO
 simp only[dC,List.map_cons,List.map_nil,List.cons_append,List.nil_append,List.length_cons,List.length_nil,List.replicate,bK,c6,dE,bY,bW,b6,List.getElem?_cons_zero,List.getElem?_cons_succ,R.bind_ok,fQ,bP hn3,eK hn3 hn4,List.set_cons_zero,List.set_cons_succ,iN,jS,c8,mO,jA,hr]
 simp only[Nat.zero_le,if_true,R.bind_ok,List.set_cons_zero,List.set_cons_succ,List.getElem?_cons_zero,List.getElem?_cons_succ,hr,hf]
 simp only[dA,kI,c8,bY,bW,b6,List.getElem?_cons_zero,List.getElem?_cons_succ,R.bind_ok,fQ,bP hn3,qT,b7,List.set_cons_zero,List.set_cons_succ]
 simp[hi,kA,hc,c9,bP hn3]
theorem aJ3{ns:List Int}{at':Int}{n sg:Nat}(hat:0<=at')(h1:1<=n)(h2:n<=1000)(s1:1<=sg)(s3:sg<=3):∃ rs:List Rw,fR [.d (dZ ns),.d (.int at'),.d (.int n),.d (.int sg)]=.ok (.d (cC rs))/\Mach rs sg/\rs.length=n:=by
 have hr:=j7 (n:=n) (by omega)
 have hn:(0:Int) < (n:Int):=by omega
 obtain ⟨ρ',hf,rs,u5,u6,hp,hg,rfl⟩:=lE (fs:=stN 5) (fb:=(sIf (iI (e1 asB (e2 dLt (e2 bL (rV 1) (rV 5)) (e1 dLen (rV 0)))) (e1 asB (e2 dEq (e2 dMod (e2 dIx (rV 0) (eC (.int 0))) (eC (.int 2))) (eC (.int 1))))) (f8 4 (eA (bF 3 dY (aB (vD (e2 dIx (rV 0) (e2 bL (rV 1) (rV 5)))) (aB (vV 2) (aB (vV 3) aS)))))) (aN (a8 6 (bF 3 dM (aB (vD (e2 dMod (eA (bF 2 bC (aB (vV 0) (aB (vD (e2 bL (rV 1) (rV 5))) aS)))) (eC (.int 2147483647)))) (aB (vV 2) (aB (vV 3) aS)))))
 (aN (sIf (iI (e1 asB (e2 dEq (rV 5) (eC (.int 0)))) (iI (e1 asB (e1 (iK "str") (e2 dIx (rV 6) (eC (.int 0))))) (e1 asB (e2 dGt (e2 dMod (e2 dDiv (eA (bF 2 bC (aB (vV 0) (aB (vV 1) aS)))) (eC (.int 8))) (eC (.int 8))) (eC (.int 0)))))) (a8 6 (vD (e2 bL (dF (aB (e2 dMod (e2 dDiv (eA (bF 2 bC (aB (vV 0) (aB (vV 1) aS)))) (eC (.int 64))) (rV 2)) aS)) (eSl dSl (rV 6) (oSo (eC (.int 1))) oNo)))) sNx)
 (f8 4 (eV 6))))))
  (d:=fun i:Nat=>.int (i:Int)) (xs:=List.range n) (ρ:=[some (.d (dZ ns)),some (.d (.int at')),some (.d (.int n)),some (.d (.int sg)),some (.l []),none,none])
  (fun i ρ=>∃ (rs:List Rw) (u5 u6:Option A),rs.length=i/\(∀ r∈rs,r.good n/\r.c.length=sg)/\ρ=[some (.d (dZ ns)),some (.d (.int at')),some (.d (.int n)),some (.d (.int sg)),some (.l (rs.map c9)),u5,u6]) ⟨[],none,none,rfl,fun c hc=>by simp at hc,rfl⟩
  (fun i k ρ hk hρ=>by
   obtain ⟨rs,u5,u6,hp,hg,rfl⟩:=hρ
   have hi:i < n:=by have:=(List.getElem?_eq_some_iff.mp hk).1;simpa using this
   have hl:rs.length < 16777216:=by omega
   have snoc:∀ r:Rw,r.good n/\r.c.length=sg->∀ x∈rs++[r],x.good n/\x.c.length=sg:=fun r hr x hx=>by
    rcases List.mem_append.mp hx with z|z
    ·exact hg x z
    ·rw[List.mem_singleton.mp z];exact hr
   obtain ⟨v,hv⟩:=lH ns (at'+k)
   obtain ⟨r,hr,gr⟩:=zB (v % 2147483647) (n:=(n:Int)) (sg:=sg) hn (by omega)
   obtain ⟨v2,hv2⟩:=lH ns at'
   have hsl:∀ r:Rw,dSl (c9 r) (some 1) none=.ok (.tuple [.tuple (r.c.map gH),r.r.d]):=fun r=>by
    unfold c9
    rw[aLN (by unfold HT.sIx;simp)]
    unfold k8 HT.sIx
    simp
   have put:∀ (u5 u6:Option A) (r:Rw),(f8 4 (eV 6)) [some (.d (dZ ns)),some (.d (.int at')),some (.d (.int n)),some (.d (.int sg)),some (.l (rs.map c9)),u5,some (.d (c9 r))]=.ok (.nx [some (.d (dZ ns)),some (.d (.int at')),some (.d (.int n)),some (.d (.int sg)),some (.l ((rs++[r]).map c9)),u5,some (.d (c9 r))]):=fun u5 u6 r=>by simp[hl]
   have mixed:∀ ρ2,ρ2=[some (.d (dZ ns)),some (.d (.int at')),some (.d (.int n)),some (.d (.int sg)),some (.l (rs.map c9)),some (.d (.int k)),u6]->∃ r2:Rw,(r2.good n/\r2.c.length=sg)/\∃ u6',(aN (a8 6 (bF 3 dM (aB (vD (e2 dMod (eA (bF 2 bC (aB (vV 0) (aB (vD (e2 bL (rV 1) (rV 5))) aS)))) (eC (.int 2147483647)))) (aB (vV 2) (aB (vV 3) aS)))))
     (aN (sIf (iI (e1 asB (e2 dEq (rV 5) (eC (.int 0)))) (iI (e1 asB (e1 (iK "str") (e2 dIx (rV 6) (eC (.int 0))))) (e1 asB (e2 dGt (e2 dMod (e2 dDiv (eA (bF 2 bC (aB (vV 0) (aB (vV 1) aS)))) (eC (.int 8))) (eC (.int 8))) (eC (.int 0)))))) (a8 6 (vD (e2 bL (dF (aB (e2 dMod (e2 dDiv (eA (bF 2 bC (aB (vV 0) (aB (vV 1) aS)))) (eC (.int 64))) (rV 2)) aS)) (eSl dSl (rV 6) (oSo (eC (.int 1))) oNo)))) sNx)
     (f8 4 (eV 6)))) ρ2=.ok (.nx [some (.d (dZ ns)),some (.d (.int at')),some (.d (.int n)),some (.d (.int sg)),some (.l ((rs++[r2]).map c9)),some (.d (.int k)),u6']):=by
    rintro ρ2 rfl
    by_cases c1:k=0
    case neg=>
     exact ⟨r,gr,some (.d (c9 r)),by simp[hv,bP,hr,c1,cZ,hl]⟩
    subst c1
    obtain ⟨r,hr,gr⟩:=zB (v2 % 2147483647) (n:=(n:Int)) (sg:=sg) hn (by omega)
    have hix:dIx (c9 r) (.int 0)=.ok r.l.d:=aCO _ _
    have hty:∃ b,iK "str" r.l.d=.ok (.bool b):=by cases r.l<;>exact ⟨_,rfl⟩
    obtain ⟨b,hb⟩:=hty
    have hadd:bL (.tuple [.int (v2 / 64 % (n:Int))]) (.tuple [.tuple (r.c.map gH),r.r.d])=.ok (c9 ⟨.n (v2 / 64 % (n:Int)),r.c,r.r⟩):=by
     rw[aJY rfl (by simp)];rfl
    have good2:(⟨.n (v2 / 64 % (n:Int)),r.c,r.r⟩:Rw).good n/\r.c.length=sg:=⟨⟨⟨Int.emod_nonneg _ (by omega),Int.emod_lt_of_pos _ hn⟩,gr.1.2.1,gr.1.2.2⟩,gr.2⟩
    cases hbb:b with
    | false=>
     subst hbb
     exact ⟨r,gr,some (.d (c9 r)),by simp[hv2,bP,hr,cZ,hix,hb,hl]⟩
    | true=>
     subst hbb
     by_cases c3:0 < v2 / 8 % 8
     ·refine ⟨⟨.n (v2 / 64 % (n:Int)),r.c,r.r⟩,good2,some (.d (c9 ⟨.n (v2 / 64 % (n:Int)),r.c,r.r⟩)),?_⟩
      simp[hv2,bP,bP hn,hr,cZ,hix,hb,hl,eK,c3,hsl,hadd]
     ·exact ⟨r,gr,some (.d (c9 r)),by simp[hv2,bP,hr,cZ,hix,hb,hl,eK,c3]⟩
   obtain ⟨r2,g2,u6',hm⟩:=mixed _ rfl
   by_cases c1:at'+(k:Int) < (ns.length:Int)
   ·obtain ⟨w0,hw0⟩:=pB (ns:=ns) (i:=0) (Int.le_refl _) (by omega)
    by_cases c2:w0 % 2=1
    ·obtain ⟨w1,hw1⟩:=pB (ns:=ns) (i:=at'+k) (by omega) c1
     obtain ⟨r3,hr3,g3⟩:=aHO w1 (n:=(n:Int)) (sg:=sg) hn (by omega) (by omega)
     refine ⟨_,_,rfl,.inl ?_,rs++[r3],some (.d (.int k)),u6,by simp[hp],snoc r3 g3,rfl⟩
     simp[iT,c1,hw0,bP,c2,cZ,hw1,hr3,hl]
    ·refine ⟨_,_,rfl,.inl ?_,rs++[r2],some (.d (.int k)),u6',by simp[hp],snoc r2 g2,rfl⟩
     rw[<-hm]
     simp only[mP,List.set_cons_succ,List.set_cons_zero]
     rw[cH]
     simp only[g7,b7,bY,bW,b6,List.getElem?_cons_zero,List.getElem?_cons_succ,R.bind_ok,fQ,iT,fJ,bX,c1,decide_true,if_true,hw0,bP (show (0:Int) < 2 by decide),cZ,c2,decide_false,Bool.false_eq_true,if_false]
   ·refine ⟨_,_,rfl,.inl ?_,rs++[r2],some (.d (.int k)),u6',by simp[hp],snoc r2 g2,rfl⟩
    rw[<-hm]
    simp only[mP,List.set_cons_succ,List.set_cons_zero]
    rw[cH]
    simp only[g7,b7,bY,bW,b6,List.getElem?_cons_zero,List.getElem?_cons_succ,R.bind_ok,fQ,iT,fJ,bX,c1,decide_false,Bool.false_eq_true,if_false])
 rw[List.length_range] at hp
 refine ⟨rs,?_,⟨by omega,by omega,s1,s3,fun r hr=>by rw[hp];exact hg r hr⟩,hp⟩
 unfold fR jU
 simp only[dC,List.map_cons,List.map_nil,List.cons_append,List.nil_append,List.length_cons,List.length_nil,List.replicate,bK,iN,jS,c8,R.bind_ok,Nat.zero_le,if_true,List.set_cons_zero,List.set_cons_succ,mO,jA,bW,List.getElem?_cons_zero,List.getElem?_cons_succ,hr,hf]
 simp[cC]
theorem qF(x y:Str):(x++y).cps.toList=x.cps.toList++y.cps.toList:=by
 show (x.cps++y.cps).toList=_
 rw[Array.toList_append]
theorem aHP{ns:List Int}{at':Int}{m sg:Nat}(hat:0<=at')(hm:m<=1000)(s1:1<=sg)(s3:sg<=3):∃ z:Str,eR [.d (dZ ns),.d (.int at'),.d (.int m),.d (.int sg)]=.ok (.d (.str z))/\cT sg z.cps.toList/\z.cps.toList.length=m:=by
 have hr:=j7 (n:=m) (by omega)
 have hn:(0:Int) < (sg:Int):=by omega
 have abc:∀ y:Int,∃ c,dIx (.str "abc") (.int (y % (sg:Int)))=.ok (.str ⟨#[c]⟩)/\dU sg c=true:=fun y=>by
  obtain ⟨c,h1,h2⟩:=aGY (k:=y) s1 s3
  exact ⟨c,aAU (by decide) h1,h2⟩
 have two:∃ z:Str,(bN (vD (e2 vS (eC (.str "")) (eL (i7 [none,some 0,some 1,some 3] (fP (rV 2)) (stN 0) l6 (e2 dIx (eC (.str "abc")) (e2 dMod (eA (bF 2 bC (aB (vV 1) (aB (vD (e2 bL (rV 2) (rV 0))) aS)))) (rV 3)))))))) [some (.d (dZ ns)),some (.d (.int at')),some (.d (.int m)),some (.d (.int sg)),none,none,none]=.ok (.rt (.d (.str z)))/\cT sg z.cps.toList/\z.cps.toList.length=m:=by
  have hc:∀ i:Nat,∃ c,(e2 dIx (eC (.str "abc")) (e2 dMod (eA (bF 2 bC (aB (vV 1) (aB (vD (e2 bL (rV 2) (rV 0))) aS)))) (rV 3))) [some (.d (.int i)),some (.d (dZ ns)),some (.d (.int at')),some (.d (.int sg))]=.ok (.str ⟨#[c]⟩)/\dU sg c=true:=fun i=>by
   obtain ⟨v,hv⟩:=lH ns (at'+i)
   obtain ⟨c,h1,h2⟩:=abc v
   exact ⟨c,by simp[hv,bP hn,h1],h2⟩
  have hx:=Classical.skolem.mp hc
  obtain ⟨f,hf⟩:=hx
  have h1:=nM (fs:=stN 0) (fe:=e2 dIx (eC (.str "abc")) (e2 dMod (eA (bF 2 bC (aB (vV 1) (aB (vD (e2 bL (rV 2) (rV 0))) aS)))) (rV 3))) (ρ0:=[none,some (.d (dZ ns)),some (.d (.int at')),some (.d (.int sg))]) (d:=fun i:Nat=>.int (i:Int)) (g:=fun i:Nat=>.str ⟨#[f i]⟩) (xs:=List.range m) fun i _=>⟨_,rfl,(hf i).1⟩
  have hst:nJ ((List.range m).map fun i:Nat=>PyData.str ⟨#[f i]⟩)=some (((List.range m).map f).map one):=by
   rw[List.map_map]
   generalize List.range m=l
   induction l with
   | nil=>rfl
   | cons a t ih=>simp only[List.map_cons,nJ,ih];rfl
  have hj:vS (.str "") (.list ((List.range m).map fun i:Nat=>.str ⟨#[f i]⟩))=.ok (.str ⟨((List.range m).map f).toArray⟩):=by
   show (match nJ ((List.range m).map fun i:Nat=>PyData.str ⟨#[f i]⟩) with|some ys=>if _ then R.ok _ else .bad|none=>.bad)=_
   rw[hst]
   simp only
   rw[if_pos (by rw[aGV,List.length_map,List.length_map,List.length_range];show m+m * 0<=_;omega),aGX]
  refine ⟨⟨((List.range m).map f).toArray⟩,?_,⟨by simp;omega,fun c hc=>?_⟩,by simp⟩
  ·simp[hr,kA,h1,hj]
  ·simp at hc
   obtain ⟨i,_,rfl⟩:=hc
   exact (hf i).2
 obtain ⟨z2,hz2,S2,l2⟩:=two
 by_cases c1:at' < (ns.length:Int)
 ·obtain ⟨w0,hw0⟩:=pB (ns:=ns) (i:=0) (Int.le_refl _) (by omega)
  by_cases c2:w0 % 2=1
  ·obtain ⟨w1,hw1⟩:=pB (ns:=ns) (i:=at') hat c1
   obtain ⟨ρ',hf,y,z,u6,hp,hg,rfl⟩:=lE (fs:=stN 6) (fb:=aN (a8 5 (vD (e2 bL (rV 5) (e2 dIx (eC (.str "abc")) (e2 dMod (rV 4) (rV 3)))))) (a8 4 (vD (e2 dDiv (rV 4) (rV 3)))))
    (d:=fun i:Nat=>.int (i:Int)) (xs:=List.range m) (ρ:=[some (.d (dZ ns)),some (.d (.int at')),some (.d (.int m)),some (.d (.int sg)),some (.d (.int w1)),some (.d (.str "")),none])
    (fun i ρ=>∃ (y:Int) (z:Str) (u6:Option A),z.cps.toList.length=i/\(∀ c∈z.cps.toList,dU sg c=true)/\ρ=[some (.d (dZ ns)),some (.d (.int at')),some (.d (.int m)),some (.d (.int sg)),some (.d (.int y)),some (.d (.str z)),u6]) ⟨w1,"",none,rfl,fun c hc=>(nomatch (show c∈([]:List Nat) from hc)),rfl⟩
    (fun i k ρ hk hρ=>by
     obtain ⟨y,z,u6,hp,hg,rfl⟩:=hρ
     have hi:i < m:=by have:=(List.getElem?_eq_some_iff.mp hk).1;simpa using this
     obtain ⟨c,h1,h2⟩:=abc y
     have hadd:bL (.str z) (.str ⟨#[c]⟩)=.ok (.str (z++⟨#[c]⟩)):=aJZ (by
      have:z.length=z.cps.toList.length:=by simp[Str.length]
      show z.length+1<=_
      omega)
     refine ⟨_,_,rfl,.inl ?_,y / sg,z++⟨#[c]⟩,some (.d (.int k)),by rw[qF,List.length_append,hp];rfl,fun x hx=>?_,rfl⟩
     ·simp[bP hn,h1,hadd,eK hn (show (sg:Int) < 18446744073709551616 by omega)]
     ·rw[qF] at hx
      rcases List.mem_append.mp hx with q|q
      ·exact hg x q
      ·have:x=c:=by simpa using q
       rw[this];exact h2)
   rw[List.length_range] at hp
   refine ⟨z,?_,⟨by omega,hg⟩,hp⟩
   unfold eR gS
   simp only[dC,List.map_cons,List.map_nil,List.cons_append,List.nil_append,List.length_cons,List.length_nil,List.replicate,bK,cH,g7,b7,bY,bW,b6,List.getElem?_cons_zero,List.getElem?_cons_succ,R.bind_ok,iT,fJ,bX,c1,decide_true,if_true,hw0,bP (show (0:Int) < 2 by decide),cZ,c2,c6,dE,hw1,List.set_cons_zero,List.set_cons_succ,mO,jA,hr,hf,eG,gZ]
  ·refine ⟨z2,?_,S2,l2⟩
   unfold eR gS
   simp only[dC,List.map_cons,List.map_nil,List.cons_append,List.nil_append,List.length_cons,List.length_nil,List.replicate]
   rw[bK,cH]
   simp only[g7,b7,bY,bW,b6,List.getElem?_cons_zero,List.getElem?_cons_succ,R.bind_ok,iT,fJ,bX,c1,decide_true,if_true,hw0,bP (show (0:Int) < 2 by decide),cZ,c2,decide_false,Bool.false_eq_true,if_false,eJ]
   rw[hz2];rfl
 ·refine ⟨z2,?_,S2,l2⟩
  unfold eR gS
  simp only[dC,List.map_cons,List.map_nil,List.cons_append,List.nil_append,List.length_cons,List.length_nil,List.replicate]
  rw[bK,cH]
  simp only[g7,b7,bY,bW,b6,List.getElem?_cons_zero,List.getElem?_cons_succ,R.bind_ok,iT,fJ,bX,c1,decide_false,Bool.false_eq_true,if_false,eJ]
  rw[hz2];rfl
end Mc
namespace Mc
open PySem L2 PyProof.Rows Fl
end Mc
namespace Mc
open PySem L2 PyProof.Rows
def j8(rs:List Rw)(z:List Nat)(s:Int×Int):Option ((Int×Int)⊕Str):=
 match (bU rs z s).1 with
 | .w x=>some (.inr x)
 | .n q=>some (.inl (s.1+(bU rs z s).2,q))
theorem walk_step{rs:List Rw}{z:List Nat}{s:Int×Int}:(∃ x,cD rs z s=none/\(bU rs z s).1=.w x/\j8 rs z s=some (.inr x))\/∃ s',cD rs z s=some s'/\j8 rs z s=some (.inl s'):=by
 unfold cD j8
 cases (bU rs z s).1 with
 | w x=>exact .inl ⟨x,rfl,rfl,rfl⟩
 | n q=>exact .inr ⟨_,rfl,rfl⟩
end Mc
namespace Mc
open PySem L2 PyProof.Rows Fl
theorem aCQ:iJ "int" "str"=false:=by decide
theorem aCR:iJ "str" "str"=true:=by decide
theorem aCS{rs:List Rw}{q:Int}(h0:0<=q)(h1:q < (rs.length:Int)):dIx (cC rs) (.int q)=.ok (c9 (dD rs q)):=pT (jT h0 (by rw[List.getElem?_map,lP h0 h1];rfl))
def l8:Option (Int×Int)->PyData
 | none=>.none
 | some s=>prD s
theorem eW(z:Str):z.length=z.cps.toList.length:=by simp[Str.length]
theorem xO{rs:List Rw}{sg:Nat}{z:Str}(M:Mach rs sg)(S:cT sg z.cps.toList){s:Int×Int}(V:eM rs z.cps.toList s):eN [.d (cC rs),.d (.str z),.d (prD s)]=.ok (.d (l8 (cD rs z.cps.toList s))):=by
 obtain ⟨p,q⟩:=s
 have hr:=aCS V.2.2.1 V.2.2.2
 have hz:z.length<=16777216:=by rw[eW];have:=S.1;omega
 have hl:=mT hz
 rw[eW] at hl
 generalize hL:z.cps.toList=zl at *
 unfold eN l7
 by_cases h0:p=0
 ·subst h0
  have hst:cD rs zl (0,q)=match (dD rs q).l with | .w _=>none | .n q'=>some (0+1,q'):=by
   unfold cD bU;simp only[if_true]<;>(cases (dD rs q).l<;>rfl)
  cases e:(dD rs q).l with
  | w x=>
   rw[e] at hst
   rw[hst]
   simp[prD,hr,hl,c9,cZ,e,Tn.d,aCR,l8]
  | n q'=>
   rw[e] at hst
   rw[hst]
   simp[prD,hr,hl,c9,cZ,e,Tn.d,aCQ,l8]
 ·by_cases h1:p=(zl.length:Int)+1
  ·have hst:cD rs zl (p,q)=match (dD rs q).r with | .w _=>none | .n q'=>some (p + -1,q'):=by
    unfold cD bU;simp only[if_neg h0,if_pos h1]<;>(cases (dD rs q).r<;>rfl)
   have hp:(0:Int) < p:=by omega
   have hgt:(zl.length:Int) < p:=by omega
   cases e:(dD rs q).r with
   | w x=>
    rw[e] at hst
    rw[hst]
    simp[prD,hr,hl,c9,cZ,e,Tn.d,aCR,l8,h0,hgt,hp]
   | n q'=>
    rw[e] at hst
    rw[hst]
    simp[prD,hr,hl,c9,cZ,e,Tn.d,aCQ,l8,h0,hgt,hp]
    omega
  ·obtain ⟨c,a1,a2,a3⟩:=sR S V h0 h1
   obtain ⟨cc,b1,b2,b3⟩:=m6 M S V h0 h1
   have v1:=V.1
   have v2:=V.2.1
   simp only at v1 v2 a1 a3 b1 b2
   have hst:cD rs zl (p,q)=some (p+cc.2,cc.1):=by
    unfold cD bU;simp only[if_neg h0,if_neg h1,b2]
   have hgt:¬ (zl.length:Int) < p:=by omega
   have ix:dIx (.str z) (.int (p - 1))=.ok (.str ⟨#[c]⟩):=aAU hz (jT (by omega) (by rw[hL,<-a1];congr 1;omega))
   have id:=zA (xN M.sg3 a2)
   have ic:dIx (.tuple ((dD rs q).c.map gH)) (.int ((c - 97:Nat):Int))=.ok (gH cc):=pT (gX (by rw[List.getElem?_map,<-a3,b1];rfl))
   rw[hst]
   simp[prD,hr,hl,c9,cZ,l8,h0,hgt,ix,id,ic,gH]
theorem lI(xs:List PyData)(x:PyData):dIx (.list (xs++[x])) (.int (-1))=.ok x:=jB (L2.aDP xs x)
noncomputable def qW:Sg->R Bool:=(e1 asB (qR true 3 (e2 dIx (rV 2) (e1 dNeg (eC (.int 1))))))
noncomputable def qX:Sg->R Fw:=(aN (pS 3 (e2 dIx (rV 2) (e1 dNeg (eC (.int 1)))) (eC (.bool true)))
 (aN (a8 4 (bF 3 eN (aB (vV 0) (aB (vV 1) (aB (vD (e2 dIx (rV 2) (e1 dNeg (eC (.int 1))))) aS)))))
 (aN (sIf (e1 asB (e2 dIs (rV 4) (eC .none))) (sFz 2 (bN (vV 2))) sNx)
 (f8 2 (eV 4)))))
theorem aAV:nW=aN (fH 2 (fG (aB (dF (aB (eC (.int 0)) (aB (eC (.int 0)) aS))) aS))) (aN (pR 3) (aN (cB qW qX) (sFz 2 (bN (vV 2))))):=id rfl
def stρ(rs:List Rw)(z:Str)(ps:List (Int×Int))(s:Int×Int)(u:Option A):Sg:=[some (.d (cC rs)),some (.d (.str z)),some (.l (ps.map prD++[prD s])),some (.m (been prD ps)),u]
theorem aJ4{rs:List Rw}{z:Str}{ps:List (Int×Int)}{s:Int×Int}{u:Option A}(h:s∈ps):qW (stρ rs z ps s u)=.ok false:=by
 have h1:=fZ iS ps s
 have h2:=(qV g8).mpr h
 simp[qW,stρ,lI,h1,h2]
theorem zC{rs:List Rw}{z:Str}{ps:List (Int×Int)}{s:Int×Int}{u:Option A}(h:s∉ps):qW (stρ rs z ps s u)=.ok true:=by
 have h1:=fZ iS ps s
 have h2:=pA g8 h
 simp[qW,stρ,lI,h1,h2]
theorem uL(s:Int×Int):iF (prD s)=false:=id rfl
theorem aHQ{rs:List Rw}{sg:Nat}{z:Str}(M:Mach rs sg)(S:cT sg z.cps.toList){ps:List (Int×Int)}{s:Int×Int}{u:Option A}(V:eM rs z.cps.toList s)(h:s∉ps)(hp:ps.length<=2000000)(e:cD rs z.cps.toList s=none):qX (stρ rs z ps s u)=.ok (.rt (.d (.list ((ps++[s]).map prD)))):=by
 have h1:=fZ iS ps s
 have h3:=nN g8 h
 have h4:(been prD ps).length<=16777216:=by rw[nO];omega
 have f:=xO M S V
 rw[e] at f
 simp[qX,stρ,lI,h1,h3,h4,f,l8]
theorem aJ5{rs:List Rw}{sg:Nat}{z:Str}(M:Mach rs sg)(S:cT sg z.cps.toList){ps:List (Int×Int)}{s s':Int×Int}{u:Option A}(V:eM rs z.cps.toList s)(h:s∉ps)(hp:ps.length<=2000000)(e:cD rs z.cps.toList s=some s'):qX (stρ rs z ps s u)=.ok (.nx (stρ rs z (ps++[s]) s' (some (.d (prD s'))))):=by
 have h1:=fZ iS ps s
 have h3:=nN g8 h
 have h4:(been prD ps).length<=16777216:=by rw[nO];omega
 have f:=xO M S V
 rw[e] at f
 have h5:ps.length+1 < 16777216:=by omega
 simp[qX,stρ,lI,h1,h3,h4,f,l8,uL,h5]
def iQ(rs:List Rw)(z:List Nat)(s:Int×Int):Prop:=eM rs z s/\((cD rs z s=none/\∃ x,(bU rs z s).1=.w x/\lQ (j8 rs z) (0,0)=some x)\/((∃ s',cD rs z s=some s')/\lQ (j8 rs z) (0,0)=none))
theorem yD{rs:List Rw}{sg:Nat}{z:Str}(M:Mach rs sg)(S:cT sg z.cps.toList):∀ (k:Nat) (ps:List (Int×Int)) (s:Int×Int) (u:Option A),Way rs z.cps.toList ps s k->Und2 (j8 rs z.cps.toList) (0,0) ps s->
  aN (cB qW qX) (sFz 2 (bN (vV 2))) (stρ rs z ps s u)=.ok (.rt (.d (.list ((eB rs z.cps.toList).map prD))))/\∃ ps' s',eB rs z.cps.toList=ps'++[s']/\iQ rs z.cps.toList s':=by
 have hB:iW rs z.cps.toList<=1002 * 1000:=Nat.mul_le_mul (by have:=S.1;omega) M.len2
 have hin:∀ (k:Nat) (ps:List (Int×Int)) (s:Int×Int) (u:Option A),Way rs z.cps.toList ps s k->Und2 (j8 rs z.cps.toList) (0,0) ps s->s∈ps->aN (cB qW qX) (sFz 2 (bN (vV 2))) (stρ rs z ps s u)=.ok (.rt (.d (.list ((eB rs z.cps.toList).map prD))))/\∃ ps' s',eB rs z.cps.toList=ps'++[s']/\iQ rs z.cps.toList s':=by
  intro k ps s u W U hs
  refine ⟨?_,ps,s,(W.stop hs).symm,W.here,.inr ⟨?_,U.met hs⟩⟩
  ·rw[bK,o9 (aJ4 hs),<-W.stop hs]
   simp[stρ]
  ·obtain ⟨m,r⟩:=U.back s hs
   cases r with
   | cons h t=>
    rcases walk_step (rs:=rs) (z:=z.cps.toList) (s:=s) with ⟨x,_,_,e⟩|⟨s',e,_⟩
    · rw [e] at h; cases h
    · exact ⟨s', e⟩
 intro k
 induction k with
 | zero=>
  intro ps s u W U
  by_cases hs:s∈ps
  ·exact hin 0 ps s u W U hs
  ·obtain ⟨j,hj⟩:=W.more hs;omega
 | succ k ih=>
  intro ps s u W U
  by_cases hs:s∈ps
  ·exact hin _ ps s u W U hs
  ·have hp:ps.length<=2000000:=by have:=W.num;omega
   rcases walk_step (rs:=rs) (z:=z.cps.toList) (s:=s) with ⟨x,e,e2,e3⟩|⟨s',e,e3⟩
   ·refine ⟨?_,ps,s,(W.ends hs e).symm,W.here,.inl ⟨e,x,e2,U.outs e3⟩⟩
    rw[bK,o8 (zC hs) (aHQ M S W.here hs hp e),<-W.ends hs e];rfl
   ·have:=ih (ps++[s]) s' (some (.d (prD s'))) (W.next M S hs e) (U.next hs e3)
    rw[bK] at this ⊢
    rw[o7 (zC hs) (aJ5 M S W.here hs hp e)]
    exact this
theorem aE2{rs:List Rw}{sg:Nat}{z:Str}(M:Mach rs sg)(S:cT sg z.cps.toList):nX [.d (cC rs),.d (.str z)]=.ok (.d (.list ((eB rs z.cps.toList).map prD)))/\∃ ps' s',eB rs z.cps.toList=ps'++[s']/\iQ rs z.cps.toList s':=by
 have h:=yD M S (iW rs z.cps.toList) [] (0,0) none (Way.start M) Und2.start
 refine ⟨?_,h.2⟩
 unfold nX
 rw[aAV]
 simp only[dC,bK,iN,jS,dA,jR,b6,c8,R.bind_ok,List.length_cons,List.length_nil,Nat.reduceAdd,Nat.reduceLeDiff,if_true,List.map_cons,List.map_nil,List.cons_append,List.nil_append,List.replicate,List.set_cons_zero,List.set_cons_succ,xK]
 have e:=h.1
 rw[bK] at e
 simp only[stρ,List.map_nil,List.nil_append,been,prD] at e
 rw[e];rfl
noncomputable def fK(rs:List Rw)(z:List Nat):Str:=(lQ (j8 rs z) (0,0)).getD "ever"
end Mc
namespace Mc
open PySem L2 PyProof.Rows Fl
theorem xP{x:PyData}(hx:SeqAt.shaped x=true)(h:∀ i,x≠.str i\/True):inD x (.tuple [.str "by",.str "out"])=some (PyData.eqv (.str "by") x || (PyData.eqv (.str "out") x || false)):=by
 have hs:SeqAt.shaped (.tuple [.str "by",.str "out"])=true:=by decide +kernel
 cases x<;>simp[inD,hx,hs]
theorem aCT(x:Str)(q:Int):PyData.eqv (.str x) (.int q)=false:=by simp[PyData.eqv]
theorem xQ(x y:Str):PyData.eqv (.str x) (.str y)=(x == y):=by rw[PyData.eqv.eq_6]
theorem aAW(q:Int):dIn (.int q) (.tuple [.str "by",.str "out"])=.ok (.bool false):=by
 unfold dIn
 rw[xP rfl fun _=>.inr trivial,aCT,aCT];rfl
theorem aAX{x:Str}(h:x="by"\/x="out"):dIn (.str x) (.tuple [.str "by",.str "out"])=.ok (.bool true):=by
 have h2:SeqAt.shaped (.str x)=true:=by rcases h with rfl|rfl<;>decide +kernel
 unfold dIn
 rw[xP h2 fun _=>.inr trivial,xQ,xQ]
 rcases h with rfl|rfl<;>rfl
end Mc
namespace Mc
open PySem L2 PyProof.Rows Fl
end Mc
namespace Mc
open PySem L2 PyProof.Rows Fl
end Mc
namespace Mc
open PySem L2 PyProof.Rows Fl
end Mc
namespace Fl
open PySem L2 PyProof.Rows
@[simp] theorem aMS(i:Nat)(f:Sg->R (List (PyData×PyData)))(ρ:Sg):aLI i f ρ=(f ρ).bind fun kvs=>(xC [] kvs).bind fun res=>.ok (.nx (ρ.set i (some (.m res)))):=id rfl
@[simp] theorem aM9(ρ:Sg):aMM ρ=.ok []:=id rfl
@[simp] theorem aMT(f g:Sg->R PyData)(r:Sg->R (List (PyData×PyData)))(ρ:Sg):aLH f g r ρ=(f ρ).bind fun x=>(g ρ).bind fun y=>(r ρ).bind fun t=>.ok ((x,y)::t):=id rfl
@[simp] theorem aLZ(i:Nat)(f g:Sg->R PyData)(ρ:Sg):aJR i f g ρ=match ρ[i]? with|some (some (.m kvs))=>(f ρ).bind fun k=>(g ρ).bind fun y=>if eD k (kvs.map (·.1))=true then .ok ((jQ kvs k).getD y) else .bad|_=>.bad:=id rfl
end Fl
namespace Mc
open PySem L2 PyProof.Rows Fl
end Mc
namespace Mc
open PySem L2 PyProof.Rows Fl
theorem nP{w:Str}(h:w="by"\/w="out"\/w="ever"):SeqAt.shaped (.str w)=true:=by rcases h with rfl|rfl|rfl<;>decide +kernel
theorem rR{w v:Str}(h:w="by"\/w="out"\/w="ever")(h':v="by"\/v="out"\/v="ever"):dEq (.str w) (.str v)=.ok (.bool (decide (w=v))):=by
 rw[gR (nP h) (nP h'),xQ]
 congr 2
end Mc
namespace Mc
open PySem L2 PyProof.Rows Fl
end Mc
namespace Fl
open PySem L2 PyProof.Rows
def pC(ρ:Sg)(σ:L2.St)(p:Addr):Prop:=∀ (j:Nat) (a:A),ρ[j]? = some (some a)->a.own=true->σ[j]? ≠ some (some (.ref p))
theorem Ab.off9{c:Ct}{ρ:Sg}{σ:L2.St}{F H:Hp}{p:Addr}{o:HO}(b:Ab c ρ σ F H)(h3:F p=none)(h4:c.H0 p=none)(hs:pC ρ σ p):Ab c ρ σ F (upd H p o) where
 len:=b.len
 fh:=fun a o' z=>by rw[aK (fun w=>by rw[w,h3] at z;cases z)];exact b.fh a o' z
 slot:=fun j a h=>by
  obtain ⟨v,h1,h2⟩:=b.slot j a h
  refine ⟨v,h1,?_⟩
  cases ho:a.own with
  | true=>exact h2.off fun z=>hs j a h ho (by rw[h1,z])
  | false=>
   cases a with
   | l xs=>cases ho
   | m xs=>cases ho
   | d x=>exact h2
   | x e=>exact h2
   | g k n f=>exact h2
   | k S=>exact h2
   | f S=>exact h2
   | o S=>exact h2
 apart:=b.apart
 f0:=b.f0
 h0:=fun a o' z=>by rw[aK (fun w=>by rw[w,h4] at z;cases z)];exact b.h0 a o' z
 n0:=b.n0
 t0:=b.t0
theorem Ab.pub9{c:Ct}{ρ:Sg}{σ:L2.St}{F H:Hp}{p:Addr}{o:HO}(b:Ab c ρ σ F H)(h2:H p=some o)(h3:F p=none)(h4:c.H0 p=none)(hs:pC ρ σ p):Ab c ρ σ (upd F p o) H:=by
 have sf:aO F (upd F p o):=aO.upd h3
 exact {
  len:=b.len
  fh:=fun a o' z=>by
   by_cases w:a=p
   ·subst w;rw[aW] at z;rw[h2];exact z
   ·rw[aK w] at z;exact b.fh a o' z
  slot:=fun j a h=>by
   obtain ⟨w,hw,q2⟩:=b.slot j a h
   refine ⟨w,hw,?_⟩
   have off:∀ r,a.own=true->w=.ref r->F r=none->upd F p o r=none:=fun r oa e f=>by
    rw[aK]
    ·exact f
    ·intro z
     subst z
     exact hs j a h oa (by rw[hw,e])
   cases a with
   | l zs=>obtain ⟨r,ws,e,q1,q2,q3,q4⟩:=q2;exact ⟨r,ws,e,q1,off r rfl e q2,q3,q4.same sf⟩
   | m kvs=>obtain ⟨r,ws,e,q1,q2,q3,q4⟩:=q2;exact ⟨r,ws,e,q1,off r rfl e q2,q3,q4.same sf⟩
   | d x=>exact DatV.same sf q2
   | x e=>exact AF.same (g:=c.g) (K:=c.K) (mg:=c.mg) (a:=.x e) sf q2
   | g k n f=>exact AF.same (g:=c.g) (K:=c.K) (mg:=c.mg) (a:=.g k n f) sf q2
   | k S=>obtain ⟨S,f,cl,doc,pm,cc,ct,h0,h1,h2,h3,h4⟩:=q2;exact ⟨S,f,cl,doc,pm,cc,ct,h0,h1,sf _ _ h2,sf _ _ h3,h4⟩
   | f kvs=>exact AF.same (g:=c.g) (K:=c.K) (mg:=c.mg) (a:=.f kvs) sf q2
   | o e=>exact AF.same (g:=c.g) (K:=c.K) (mg:=c.mg) (a:=.o e) sf q2
  apart:=b.apart
  f0:=fun a o z=>sf a o (b.f0 a o z)
  h0:=b.h0
  n0:=fun a z n=>by
   by_cases w:a=p
   ·subst w;exact .inl h4
   ·rw[aK w] at n;exact b.n0 a z n
  t0:=b.t0}
theorem Ab.drop9{c:Ct}{ρ:Sg}{σ:L2.St}{F H:Hp}(b:Ab c ρ σ F H)(i:Nat)(v:V):Ab c (ρ.set i none) (σ.set i (some v)) F H where
 len:=by rw[List.length_set,List.length_set];exact b.len
 fh:=b.fh
 slot:=fun j a h=>by
  rcases get_set h with ⟨e,q,hl⟩|⟨ne,q⟩
  ·cases q
  ·rw[List.getElem?_set_ne ne];exact b.slot j a q
 apart:=fun j k a' b' hjk h1 h2 o1 o2=>by
  rcases get_set h1 with ⟨e,q,hl⟩|⟨ne,q⟩
  ·cases q
  ·rcases get_set h2 with ⟨e',q',hl'⟩|⟨ne',q'⟩
   ·cases q'
   ·rw[List.getElem?_set_ne ne,List.getElem?_set_ne ne']
    exact b.apart j k a' b' hjk q q' o1 o2
 f0:=b.f0
 h0:=b.h0
 n0:=b.n0
 t0:=b.t0
theorem xR{α:Type}{l:List α}{i:Nat}{x:α}(h:l[i]? = some x):l.set i x=l:=by
 obtain ⟨hl,e⟩:=List.getElem?_eq_some_iff.mp h
 rw[<-e];exact List.set_getElem_self hl
structure Own9(c:Ct)(F H:Hp)(ρ:Sg)(σ:L2.St)(i:Nat)(p b:Addr)(u:V)(ws:List V):Prop where
 s:σ[i]? = some (some (.ref p))
 ne:p≠b
 hp:H p=some (.lst [u,.ref b])
 hb:H b=some (.lst ws)
 fp:F p=none
 fb:F b=none
 p0:c.H0 p=none
 b0:c.H0 b=none
 np:pC ρ σ p
 nb:pC ρ σ b
theorem Own9.ext{c:Ct}{F H F' H':Hp}{ρ:Sg}{σ:L2.St}{i:Nat}{p b:Addr}{u:V}{ws:List V}(h:Own9 c F H ρ σ i p b u ws)(e:Ext F H F' H'):Own9 c F' H' ρ σ i p b u ws:=
 ⟨h.s,h.ne,e.hh _ _ h.hp,e.hh _ _ h.hb,e.stay h.fp h.hp (fun _ z=>nomatch z),e.stay h.fb h.hb (fun _ z=>nomatch z),h.p0,h.b0,h.np,h.nb⟩
theorem Own9.done{c:Ct}{F H:Hp}{ρ:Sg}{σ:L2.St}{i:Nat}{p b:Addr}{u:V}{ws ws':List V}{d1:PyData}{ys:List PyData}(h:Own9 c F H ρ σ i p b u ws)(ab:Ab c ρ σ F H)(h1:DatV c.K F u d1)(h2:DatVs c.K F ws' ys) :
  ∃ F',aO F F'/\Ab c (ρ.set i (some (.d (.list [d1,.list ys])))) σ F' (upd H b (.lst ws')):=by
 have a1:=(ab.off9 (o:=.lst ws') h.fb h.b0 h.nb).pub9 (p:=b) aW h.fb h.b0 h.nb
 have a2:=a1.pub9 (p:=p) (o:=.lst [u,.ref b]) (by rw[aK h.ne];exact h.hp) (by rw[aK h.ne];exact h.fp) h.p0 h.np
 have s1:aO F (upd F b (.lst ws')):=aO.upd h.fb
 have s2:aO (upd F b (.lst ws')) (upd (upd F b (.lst ws')) p (.lst [u,.ref b])):=aO.upd (by rw[aK h.ne];exact h.fp)
 have a3:=a2.setA (i:=i) (a:=.d (.list [d1,.list ys])) (v:=.ref p) (.lst (SqL.of aW) (.cons ((h1.same s1).same s2) (.cons (.lst (SqL.of (by rw[aK (Ne.symm h.ne)];exact aW)) ((h2.same s1).same s2)) .nil)))
 rw[xR h.s] at a3
 exact ⟨_,fun a o z=>s2 a o (s1 a o z),a3⟩
end Fl
namespace L2
open PySem PySem.Spec PyProof.Rows
def tCM(C:Addr)(sp:Sp)(dvs:List V)(E:XK)(ta:TE)(t:TA):TE:=fun σ H Q=>ta σ H fun x H1=>x=.ref C/\t σ H1 fun vs H2=>sp (vs++dvs) H2 Q E
structure ClsM(K:Frag)(C:Addr)(m:Str)(f:Addr):Prop where
 sp:PySem.W.specialIn K (.ref C) "__getattribute__"=some (some (.builtin "type.__getattribute__"))
 rd:PySem.W.readsIn K C (.type "type")=true
 fc:PySem.W.findCls K (.ref C) (.type "type") m=some (.val (.ref f))
 kp:PySem.W.keepIn K (.ref f)=true
section
variable{X:Cx}{CX:CXT}{k:Nat}{f C:Addr}{fd:FuncData}{ps:List Str}{sp:Sp}{dvs:List V}{ds:List Value}{E:XK}{m:Str}{pos apos:Pos}{e o:Expr}{es:List Expr}{ta:TE}{t:TA}
theorem tK{pl:Sem Bool}(he:PE X o ta)(cm:ClsM X.K C m f)(F:FnOk X.prog X.w X.K X.mg X.base CX k f fd ps sp)(hr:Room k X.A)(hb:cS X.K fd ps ds)(hd:bG dvs ds)(hx:iC CX X E)(ha:PA X (e::es) t)
  (hst:starEach (e::es) X.env=(false,eval e X.env)::starEach es X.env:=by rfl) (hpl:(backTo pos (starEach es X.env)).any (·.1)=false:=by rfl)
  (ht:eval (.Call (.Attribute o m apos) (e::es) [] pos) X.env=(do
   let ov <-eval o X.env
   standAt apos.atName
   let (f,first) <-holding [ov] (getMethod ov m pl)
   callWith pos f first (backTo pos (starEach (e::es) X.env)) (backToKw pos (keywordEach [] X.env))):=by rfl) :
  PE X (.Call (.Attribute o m apos) (e::es) [] pos) (tCM C sp dvs E ta t):=by
 intro pins s σ H Q I h
 refine PySem.W.methodCall_KW (pl:=pl) (thn (he pins s σ H _ I h) fun u s1 zz0=>?_) ht
 obtain ⟨x,H1,I1,rx,ex,q⟩:=zz0
 subst ex
 obtain rfl:u=Value.ref C:=rx
 refine PySem.W.method_cls I1.kIn cm.sp (PySem.W.cls_value I1.kIn cm.rd cm.fc rfl ?_)
 have I1':=I1.tok (s1.toks+1)
 refine PySem.W.callWith_K (first:=[]) (h₀:=X.base) I.ok.mod.kin cm.kp (thn (ha pos pins _ σ H1 _ I1' q) fun us s2 ⟨vs,H2,I2,r,q2⟩=>⟨I2.kIn,?_⟩) hst hpl
 exact wC (us:=us) (vs:=vs) F hr hb hd hx I2 r q2
end
def spB(K:Frag)(fs:List Str):Sp:=fun vs H Q _=>∃ x C dx us,vs=.ref x::us/\us.length=fs.length/\H x=some (.ins C dx [])/\Cls K C/\(∀ f∈fs,cX K C f)/\Q .non (upd H x (.ins C dx (fs.zip us)))
def spO(C:Addr)(fs:List Str):Sp:=fun vs H Q _=>∃ x dx us,vs=.ref x::us/\us.length=fs.length/\H x=some (.ins C dx [])/\Q .non (upd H x (.ins C dx (fs.zip us)))
structure MkAt(P:Program)(w:World)(K:Frag)(mg:Str->Option Value)(base:Heap)(k:Nat)(cn:Str)(fs:List Str)(C:Addr):Prop where
 m:mg cn=some (.ref C)
 i:∃ f fd,Mk K C f/\FnOk P w K mg base CX0 k f fd ("self"::fs) (spO C fs)/\cS K fd ("self"::fs) []
end L2
namespace Fl
open PySem L2 PyProof.Rows
def vO(i:Nat):Sg->R A:=fun ρ=>match ρ[i]? with
 | some (some (.o e))=>.ok (.o e)
 | _=>.bad
theorem mU{X:Cx}{c:Ct}{E:XK}{e:Expr}{i:Nat}(h:PE X e (j9 i)):PV X c E e (vO i):=PE.imp h fun σ H Q ⟨ρ,F,ab,k⟩=>by
 unfold vO at k
 split at k
 ·rename_i x hx
  obtain ⟨v,h1,h2⟩:=ab.slot i _ hx
  exact ⟨v,h1,k v F H (Ext.refl ab.fh) h2⟩
 ·exact k.elim
def tL(cn:Str)(fs:List Str)(f:Sg->R (List PyData)):Sg->R A:=fun ρ=>(f ρ).bind fun xs=>if xs.length=fs.length then .ok (.o ⟨cn,fs.zip xs⟩) else .bad
section
variable{X:Cx}{c:Ct}{E:XK}{e o:Expr}{es:List Expr}{pos apos:Pos}
theorem aHR{cn:Str}{fs:List Str}{C:Addr}{E':XK}{f:Sg->R (List PyData)}(hm:c.mg cn=some (.ref C))(h:PE X e (aFK C (spO C fs) [] E' (tAd c E f))):PV X c E e (tL cn fs f):=PE.imp h fun σ H Q zz0=>by
 obtain ⟨ρ,F,ab,k⟩:=zz0
 refine ⟨ρ,F,ab,(Rk.bind k).imp fun xs _ q vs F1 H1 s1 r1 x dx hx hdx hne=>?_⟩
 by_cases hn:xs.length=fs.length
 ·rw[if_pos hn] at q
  have hv:vs.length=fs.length:=by rw[r1.length,hn]
  refine ⟨x,dx,vs,by rw[List.append_nil],hv,aW,rfl,?_⟩
  rw[gW]
  have s2:Ext F1 H1 (upd F1 dx (.own x)) (upd H1 dx (.own x)):=Ext.new s1.fh hdx
  have s3:Ext _ _ (upd (upd F1 dx (.own x)) x (.ins C dx (fs.zip vs))) (upd (upd H1 dx (.own x)) x (.ins C dx (fs.zip vs))):=Ext.new s2.fh (by rw[aK (Ne.symm hne)];exact hx)
  exact Rk.ok q (.ref x) _ _ (s1.trans (s2.trans s3)) ⟨x,rfl,C,dx,fs.zip vs,hm,aW,(by show _=(fs.zip xs).map (·.1);rw[mM hv,mM hn]),(by show DatVs _ _ _ ((fs.zip xs).map (·.2));rw[mN hv,mN hn];exact r1.same (s2.trans s3).ff)⟩
 ·rw[if_neg hn] at q;exact q.elim
theorem xS{k:Nat}{cn:Str}{fs:List Str}{C:Addr}{p:Pos}{f:Sg->R (List PyData)}(hM:X.mg=c.mg)(M:MkAt X.prog X.w X.K X.mg X.base k cn fs C)(hr:Room (k+1) X.A)(hg:Gl X cn)(ha:PAd X c E (e::es) f)(hdb:(cn == ("__debug__":Str))=false:=by decide)(he:starEach (e::es) X.env=(false,eval e X.env)::starEach es X.env:=by rfl)(hpl:(backTo pos (starEach es X.env)).any (·.1)=false:=by rfl):PV X c E (.Call (.Name cn p) (e::es) [] pos) (tL cn fs f):=by
 obtain ⟨fI,fd,mk,ok,b⟩:=M.i
 exact aHR (by rw[<-hM];exact M.m) (aGH mk ok hr hg M.m b .nil vI ha hdb he hpl)
def eOF(i:Nat)(cs:List Str)(g:Str):Sg->R PyData:=fun ρ=>match ρ[i]? with
 | some (some (.o e))=>if cs.contains e.c=true then (match e.fs.lookup g with|some d=>.ok d|none=>.bad) else .bad
 | _=>.bad
def f9(K:Frag)(mg:Str->Option Value)(cs:List Str)(g:Str):Prop:=∀ nm∈cs,∃ C,mg nm=some (.ref C)/\Cls K C/\cX K C g
theorem iE{i:Nat}{cs:List Str}{g:Str}{e:Expr}(hK:X.K=c.K)(hM:X.mg=c.mg)(hc:f9 X.K X.mg cs g)(h:PE X e (aIS X.K (j9 i) g)):PD X c E e (eOF i cs g):=PE.imp h fun σ H Q ⟨ρ,F,ab,k⟩=>by
 unfold eOF at k
 split at k
 ·rename_i er hi
  split at k
  ·rename_i hcc
   split at k
   ·rename_i d hd
    obtain ⟨v,hv,a,rfl,C,dx,fvs,m,h1,h2,h3⟩:=ab.slot i _ hi
    obtain ⟨C2,m2,x1,x2⟩:=hc er.c (by simpa using hcc)
    rw[hM,m] at m2
    cases m2
    obtain ⟨u,u1,u2⟩:=xD h2 h3 hd
    exact ⟨_,hv,a,C,dx,fvs,u,rfl,ab.fh _ _ h1,x1,x2,u1,Rk.ok k u F H (Ext.refl ab.fh) u2⟩
   ·exact k.elim
  ·exact k.elim
 ·exact k.elim
def tM(P:Program)(w:World)(K:Frag)(mg:Str->Option Value)(base:Heap)(T:Hp)(k:Nat)(cn m:Str)(G:List A->R A):Prop:=
 ∃ C f fd,mg cn=some (.ref C)/\Cls K C/\Meth K C m f/\FnOk P w K mg base (CXe P w) k f fd ["self"] (spF (gOf P w K mg base T) K mg 1 G)/\cS K fd ["self"] []
theorem oQ{V W:Type}{g:Str}:∀ {fvs:List (Str×V)} {fs:List (Str×W)},fvs.map (·.1)=fs.map (·.1)->fs.lookup g=none->fvs.lookup g=none
 | [],[],_,_=>rfl
 | [],_::_,h,_=>by simp at h
 | _::_,[],h,_=>by simp at h
 | (a,v)::fvs,(b,x)::fs,h,e=>by
  rw[List.map_cons,List.map_cons] at h
  injection h with h1 h2
  simp only at h1
  subst h1
  rw[List.lookup_cons] at e ⊢
  cases q:(g == a) with
  | true=>rw[q] at e;cases e
  | false=>rw[q] at e;exact oQ h2 e
theorem qG{α:Type}{k:Str}{v:α}:∀ {l:List (Str×α)},l.lookup k=some v->(k,v)∈l
 | [],h=>by cases h
 | (a,x)::t,h=>by
  rw[List.lookup_cons] at h
  cases q:(k == a) with
  | true=>rw[q] at h;cases h;rw[eq_of_beq q];exact .head _
  | false=>rw[q] at h;exact .tail _ (qG h)
def vMt(f:Sg->R A)(m:Str)(tb:List (Str×(List A->R A))):Sg->R A:=fun ρ=>(f ρ).bind fun a=>match a with
 | .o e=>if (e.fs.lookup m).isNone=true then (match tb.lookup e.c with|some G=>G [.o e]|none=>.bad) else .bad
 | _=>.bad
theorem aF0{k:Nat}{m:Str}{T:Hp}{tb:List (Str×(List A->R A))}{f:Sg->R A}{pl:Sem Bool}(hG:c.g=gOf X.prog X.w X.K X.mg X.base T)(hK:X.K=c.K)(hM:X.mg=c.mg)(h:∀ p∈tb,tM X.prog X.w X.K X.mg X.base T k p.1 m p.2)(hr:Room k X.A)(hx:iC (CXe X.prog X.w) X E)(hv:PV X c E o f)
  (ht:eval (.Call (.Attribute o m apos) [] [] pos) X.env=(do
   let ov <-eval o X.env
   standAt apos.atName
   let (f,first) <-holding [ov] (getMethod ov m pl)
   callWith pos f first (backTo pos (starEach [] X.env)) (backToKw pos (keywordEach [] X.env))):=by rfl):PV X c E (.Call (.Attribute o m apos) [] [] pos) (vMt f m tb):=by
 intro pins s σ H Q I ⟨ρ,F,ab,k⟩
 refine yA hv I ⟨ρ,F,ab,(Rk.bind k).imp fun a _ k v F1 H1 s1 r1=>?_⟩ ht
 cases a with
 | o er=>
  dsimp only at k
  split at k
  ·rename_i hnone
   split at k
   ·rename_i G hl
    obtain ⟨a,rfl,C,dx,fvs,m',h1,h2,h3⟩:=r1
    obtain ⟨C2,f,fd,m2,cl,me,ok,b⟩:=(show tM X.prog X.w X.K X.mg X.base T _ er.c m G from h _ (qG hl))
    rw[hM] at m2
    have m3:c.mg er.c=some (.ref C2):=m2
    rw[m'] at m3
    cases m3
    refine ⟨a,C,dx,fvs,f,rfl,s1.fh _ _ h1,cl,me,oQ h2 (Option.isNone_iff_eq_none.mp hnone),fun s2 I2=>?_⟩
    refine PySem.W.callWith_K0 (first:=[.ref a]) I2.kIn me.kp (wC (us:=[.ref a]) (vs:=[.ref a]) ok hr b .nil hx I2 (.cons rfl .nil) ?_)
    refine ⟨F1,[.o er],by rw[<-hG];exact fun a o z=>s1.ff a o (ab.f0 a o (ab.t0 a o z)),s1.fh,⟨⟨a,rfl,?_⟩,trivial⟩,rfl,?_⟩
    ·rw[hK,hM];exact ⟨C,dx,fvs,m',h1,h2,h3⟩
    ·rw[<-hG,hK,hM]
     cases hg:G [.o er] with
     | bad=>rw[hg] at k;exact k
     | ok a=>rw[hg] at k;exact fun v F' H' s r=>Rk.ok k v F' H' (s1.trans s) r
     | ex e=>rw[hg] at k;exact fun a C F' H' s r=>k a C F' H' ((ab.all.trans s1).trans s) r
   ·exact k.elim
  ·exact k.elim
 | _=>exact k.elim
end
theorem kP{P:Program}{w:World}{K:Frag}{mg:Str->Option Value}{base:Heap}{T:Hp}{x q:Str}{st:Stmt}{N ps:List Str}{k:Nat}{f:Addr}{fd:FuncData}{fb:Sg->R Fw}(FL:Fun K x q st f fd)(S:FnScope N ps (aL st))
  (hbody:∀ (cdv:Value) (A:Around) (outer:List Env) (s:Shared) (H F:Hp) (E:XK),Room k (A.deeper (envOfC q (aL st) s.heap.objs.size f cdv))->
   kX ((iH (CXe P w) P w K mg base N q (aL st) f cdv A outer s H E).fly E) ⟨K,mg,w,F,H,gOf P w K mg base T,(envOfC q (aL st) s.heap.objs.size f cdv).cells,fun _=>none⟩ E (b5 st) fb):FnOk P w K mg base (CXe P w) (k+1) f fd ps (spF (gOf P w K mg base T) K mg ps.length (fnF N.length fb)):=by
 refine FL.okX S (fun vs H Q E h=>?_) (fun cdv A outer s H vs Q E hr h=>?_)
 ·obtain ⟨F,as,_,_,h2,h3,_⟩:=h
  rw[h2.len,h3]
 ·obtain ⟨F,as,h0,h1,h2,h3,h4⟩:=h
  exact ⟨_,hbody cdv A outer s H F E hr,tF h0 h1 h2 h4⟩
end Fl
namespace Fl
open PySem L2 PyProof.Rows
def rLI(K:Frag):V->List V->Hp->VK->Prop:=fun x vs H Q=>∃ xs d u j,vs=[u]/\DatV K H x (.list xs)/\DatV K H u d/\SeqAt.shaped d=true/\SeqAt.shaped (.list xs)=true/\xs.length<=16777216/\(xs.findIdx? fun y=>PyData.eqv y d)=some j/\Q (.int j) H
theorem aCU{X:Cx}(hu:X.A.units+64 < cLine):MtR X "list.index" (rLI X.K):=by
 intro pins s σ H x vs v us Q I rx rv h
 obtain ⟨xs,d,u,j,rfl,hx,hd,s1,s2,hl,hj,q⟩:=h
 obtain ⟨u',rfl,ru⟩:=rv.one
 obtain ⟨as,r1⟩:=DatV.reads I hx rx
 obtain ⟨bs,r2⟩:=DatV.reads I hd ru
 have hs:=nF s2
 have hm:=kU (b:=d.depth) hs.2
 cases r1 with
 | list h1 h2 h3 h4=>
  rename_i a o its n as'
  have hmap:=SeqAt.readsAll_map _ _ _ hs.1 h4
  obtain ⟨oc,od,dt,sl⟩:=o
  dsimp only at h2 h3
  subst h2 h3
  have hlen:its.toList.length=xs.length:=by rw[<-hmap,List.length_map]
  have hsz:its.size=xs.length:=by rw[<-hlen,Array.length_toList]
  rw[List.findIdx?_eq_some_iff_getElem] at hj
  obtain ⟨hjl,hje,hjn⟩:=hj
  have ev:∀ m (hm:m < its.size),PyData.eqv (SeqAt.readOf s.heap its[m]) d=PyData.eqv (xs[m]'(by omega)) d:=fun m hm=>by
   have:SeqAt.readOf s.heap its[m]=xs[m]'(by omega):=by
    have z:(its.toList.map (SeqAt.readOf s.heap))[m]'(by rw[List.length_map];simpa using hm)=xs[m]'(by omega):=by simp only[hmap]
    rw[List.getElem_map] at z
    simpa using z
   rw[this]
  refine call_meets PySem.F.slot_list_index ⟨_,h1,rfl⟩ PySem.F.entry_list_index (PySem.F.args_list_index_2 _ _) (SeqAt.list_indexAt a its n od sl u' (fun y=>PyData.eqv (SeqAt.readOf s.heap y) d) j (by omega) (by omega) (by rw[ev j (by omega)];exact hje) (fun m hm hlt=>by rw[ev m hm];exact Bool.eq_false_iff.mpr (hjn m hlt))) ⟨h1,SeqAt.items_eqAt h4 r2 hs.1 (i0 s1) (by omega),.int j,H,I.tok _,⟨_,rfl⟩,q⟩
def tN:PyData->PyData->R PyData
 | .list xs,x=>if SeqAt.shaped x=true/\SeqAt.shaped (.list xs)=true/\xs.length<=16777216 then (match xs.findIdx? fun y=>PyData.eqv y x with|some j=>.ok (.int j)|none=>.bad) else .bad
 | _,_=>.bad
def isL:PyData->Bool
 | .list _=>true
 | _=>false
def aE3(f g:Sg->R PyData):Sg->R PyData:=fun ρ=>(f ρ).bind fun x=>if isL x=true then (g ρ).bind fun y=>tN x y else .bad
theorem aCV{X:Cx}{c:Ct}{E:XK}{e:Expr}{f g:Sg->R PyData}(hK:X.K=c.K)(h:PE X e (tBM X.K "list" (rLI X.K) (tV (aV c) c E f) (d0 (tV (aV c) c E g) gG))):PD X c E e (aE3 f g):=PE.imp h fun σ H Q ⟨ρ,F,ab,k⟩=>by
 refine ⟨ρ,F,ab,(Rk.bind k).imp fun x ex q v F1 H1 s1 r1=>?_⟩
 cases x with
 | list xs=>
  have q1:Rk c E F H (g ρ) _:=Rk.bind (f:=fun y=>tN (.list xs) y) q
  obtain ⟨p,vs,rfl,h1,h2⟩:=aY.lst_of s1.fh r1
  refine ⟨.inl ⟨rfl,vs,by rw[hK];exact h1⟩,ρ,F1,ab.ext s1,(q1.ext s1).imp fun y _ q u F2 H2 s2 r2=>?_⟩
  unfold tN at q
  dsimp only at q
  split at q
  ·rename_i hs
   split at q
   ·rename_i j hj
    exact ⟨xs,y,u,j,rfl,by rw[hK];exact (aY.ext s2 r1).heap s2.fh,by rw[hK];exact r2.heap s2.fh,hs.1,hs.2.1,hs.2.2,hj,Rk.ok q _ F2 H2 (s1.trans s2) (.int _)⟩
   ·exact q.elim
  ·exact q.elim
 | _=>exact q.elim
end Fl
namespace Fl
open PySem L2 PyProof.Rows
def iG(ρ:Sg):Bool:=ρ.all fun o=>match o with
 | some a=>!a.own
 | none=>true
theorem nQ{ρ:Sg}{σ:L2.St}{p:Addr}(h:iG ρ=true):pC ρ σ p:=fun j a hj ho=>by
 have z:=List.all_eq_true.mp h _ (List.mem_of_getElem? hj)
 simp only[ho] at z
 cases z
structure OwnL(c:Ct)(F H:Hp)(σ:L2.St)(i:Nat)(p:Addr)(qs:List Addr)(vss:List (List V)):Prop where
 s:σ[i]? = some (some (.ref p))
 hp:H p=some (.lst (qs.map V.ref))
 fp:F p=none
 p0:c.H0 p=none
 np:p∉qs
 nd:qs.Nodup
 len:vss.length=qs.length
 q:∀ (j:Nat) (q:Addr) (vs:List V),qs[j]? = some q->vss[j]? = some vs->H q=some (.lst vs)/\F q=none/\c.H0 q=none
theorem OwnL.ext{c:Ct}{F H F' H':Hp}{σ:L2.St}{i:Nat}{p:Addr}{qs:List Addr}{vss:List (List V)}(h:OwnL c F H σ i p qs vss)(e:Ext F H F' H'):OwnL c F' H' σ i p qs vss:=
 ⟨h.s,e.hh _ _ h.hp,e.stay h.fp h.hp (fun _ z=>nomatch z),h.p0,h.np,h.nd,h.len,fun j q vs h1 h2=>by
  obtain ⟨a,b,d⟩:=h.q j q vs h1 h2
  exact ⟨e.hh _ _ a,e.stay b a (fun _ z=>nomatch z),d⟩⟩
theorem OwnL.put{c:Ct}{F H:Hp}{σ:L2.St}{i:Nat}{p:Addr}{qs:List Addr}{vss:List (List V)}(h:OwnL c F H σ i p qs vss){j:Nat}{q:Addr}{vs us:List V}(h1:qs[j]? = some q)(h2:vss[j]? = some vs):OwnL c F (upd H q (.lst us)) σ i p qs (vss.set j us):=by
 have hq:q∈qs:=List.mem_of_getElem? h1
 refine ⟨h.s,?_,h.fp,h.p0,h.np,h.nd,by rw[List.length_set];exact h.len,fun k r ws e1 e2=>?_⟩
 ·rw[aK (fun z=>h.np (by rw[z];exact hq))];exact h.hp
 ·rcases get_set e2 with ⟨e,z,_⟩|⟨ne,z⟩
  ·subst e z
   rw[h1] at e1
   cases e1
   obtain ⟨_,b,d⟩:=h.q _ _ _ h1 h2
   exact ⟨aW,b,d⟩
  ·obtain ⟨a,b,d⟩:=h.q k r ws e1 z
   refine ⟨?_,b,d⟩
   rw[aK]
   ·exact a
   ·intro w
    subst w
    obtain ⟨l1,g1⟩:=List.getElem?_eq_some_iff.mp h1
    obtain ⟨l2,g2⟩:=List.getElem?_eq_some_iff.mp e1
    exact ne ((List.getElem_inj h.nd).mp (g1.trans g2.symm))
theorem zD{c:Ct}{ρ:Sg}{σ:L2.St}{H:Hp}(hn:iG ρ=true):∀ (qs:List Addr) (vss:List (List V)) {F:Hp},Ab c ρ σ F H->qs.Nodup->vss.length=qs.length->(∀ (j:Nat) (q:Addr) (vs:List V),qs[j]? = some q->vss[j]? = some vs->H q=some (.lst vs)/\F q=none/\c.H0 q=none)->
  ∃ F',aO F F'/\Ab c ρ σ F' H/\(∀ (j:Nat) (q:Addr) (vs:List V),qs[j]? = some q->vss[j]? = some vs->F' q=some (.lst vs))/\∀ a,a∉qs->F' a=F a
 | [],_,F,ab,_,_,_=>⟨F,cU F,ab,fun j q vs h=>by simp at h,fun _ _=>rfl⟩
 | q::qs,[],F,ab,_,hl,_=>by simp at hl
 | q::qs,vs::vss,F,ab,nd,hl,h=>by
  obtain ⟨a,b,d⟩:=h 0 q vs rfl rfl
  have ab1:=ab.pub9 a b d (nQ hn)
  have nq:q∉qs:=(List.nodup_cons.mp nd).1
  obtain ⟨F',s1,ab2,k1,k2⟩:=zD hn qs vss ab1 (List.nodup_cons.mp nd).2 (by simpa using hl) (fun j r ws e1 e2=>by
   obtain ⟨x,y,z⟩:=h (j+1) r ws (by simpa using e1) (by simpa using e2)
   exact ⟨x,by rw[aK (fun w=>nq (by rw[<-w];exact List.mem_of_getElem? e1))];exact y,z⟩)
  refine ⟨F',fun x o z=>s1 x o (aO.upd b x o z),ab2,fun j r ws e1 e2=>?_,fun x hx=>?_⟩
  ·cases j with
   | zero=>simp at e1 e2;subst e1 e2;rw[k2 q nq,aW]
   | succ j=>exact k1 j r ws (by simpa using e1) (by simpa using e2)
  ·rw[List.mem_cons,not_or] at hx
   rw[k2 x hx.2,aK hx.1]
theorem xT{K:Frag}{F F2:Hp}(s:aO F F2):∀ {qs:List Addr} {vss:List (List V)} {xss:List (List PyData)},vss.length=qs.length->xss.length=qs.length->(∀ (j:Nat) (q:Addr) (vs:List V),qs[j]? = some q->vss[j]? = some vs->F2 q=some (.lst vs))->(∀ (j:Nat) vs xs,vss[j]? = some vs->xss[j]? = some xs->DatVs K F vs xs)->DatVs K F2 (qs.map V.ref) (xss.map PyData.list)
 | [],_,[],_,_,_,_=>.nil
 | [],_,_::_,_,h,_,_=>by simp at h
 | q::qs,[],_,h,_,_,_=>by simp at h
 | q::qs,_,[],_,h,_,_=>by simp at h
 | q::qs,vs::vss,xs::xss,h1,h2,h3,h4=>.cons (.lst (SqL.of (h3 0 q vs rfl rfl)) ((h4 0 vs xs rfl rfl).same s)) (xT s (by simpa using h1) (by simpa using h2) (fun j r ws e1 e2=>h3 (j+1) r ws (by simpa using e1) (by simpa using e2)) (fun j r ws e1 e2=>h4 (j+1) r ws (by simpa using e1) (by simpa using e2)))
theorem OwnL.done{c:Ct}{F H:Hp}{ρ:Sg}{σ:L2.St}{i:Nat}{p:Addr}{qs:List Addr}{vss:List (List V)}{xss:List (List PyData)}(h:OwnL c F H σ i p qs vss)(ab:Ab c ρ σ F H)(hn:iG ρ=true)(hx:xss.length=qs.length)(hd:∀ (j:Nat) vs xs,vss[j]? = some vs->xss[j]? = some xs->DatVs c.K F vs xs) :
  ∃ F',aO F F'/\Ab c (ρ.set i (some (.d (.list (xss.map PyData.list))))) σ F' H:=by
 obtain ⟨F1,s1,ab1,k1,k2⟩:=zD hn qs vss ab h.nd h.len h.q
 have fp:F1 p=none:=by rw[k2 p h.np];exact h.fp
 have ab2:=ab1.pub9 h.hp fp h.p0 (nQ hn)
 have s2:aO F1 (upd F1 p (.lst (qs.map V.ref))):=aO.upd fp
 have ab3:=ab2.setA (i:=i) (a:=.d (.list (xss.map PyData.list))) (v:=.ref p) (.lst (SqL.of aW) (xT (fun a o z=>s2 a o (s1 a o z)) h.len hx (fun j q vs e1 e2=>s2 _ _ (k1 j q vs e1 e2)) hd))
 rw[xR h.s] at ab3
 exact ⟨_,fun a o z=>s2 a o (s1 a o z),ab3⟩
def lT(fs:PyData->Sg->Option Sg)(fk fe:Sg->R PyData):List PyData->List (List PyData)->Sg->R (List (List PyData)×Sg)
 | [],xss,ρ=>.ok (xss,ρ)
 | y::t,xss,ρ=>(tD (fs y ρ)).bind fun ρ1=>if iG ρ1=true then (fk ρ1).bind fun k=>(match k with
  | .int kk=>(match ixN xss.length kk with
   | some j=>(fe ρ1).bind fun x=>if (xss.getD j []).length < 16777216 then lT fs fk fe t (xss.set j (xss.getD j []++[x])) ρ1 else .bad
   | none=>.bad)
  | _=>.bad) else .bad
def aAY(i:Nat)(fi1 fi2:Sg->R (List PyData))(fs:PyData->Sg->Option Sg)(fk fe:Sg->R PyData):Sg->R Fw:=fun ρ=>(fi1 ρ).bind fun xs=>if i < ρ.length/\iG (ρ.set i none)=true then (fi2 (ρ.set i none)).bind fun ys=>(lT fs fk fe ys (List.replicate xs.length []) (ρ.set i none)).bind fun r=>.ok (.nx (r.2.set i (some (.d (.list (r.1.map PyData.list)))))) else .bad
theorem aLQ{c:Ct}{E:XK}{F H F1 H1 F2 H2:Hp}{α β:Type}{r:R α}{f:α->R β}{k:β->Prop}(h:Rk c E F H r fun a=>Rk c E F1 H1 (f a) k):Rk c E F2 H2 (r.bind f) k:=by
 cases r with
 | bad=>exact h
 | ok a=>exact h
 | ex e=>exact h
def aF1(i:Nat)(r:List (List PyData)×Sg):R Fw:=.ok (.nx (r.2.set i (some (.d (.list (r.1.map PyData.list))))))
def aF2(c:Ct)(E:XK)(F H:Hp)(D:iQ)(fr:Sg->R Fw)(w:Fw):Prop:=Rk c E F H (match w with | .nx ρ'=>fr ρ'|w=>.ok w) (hX c F D)
section
variable{X:Cx}{c:Ct}{E:XK}{rest:List Stmt}{pos:Pos}
theorem aE4{st1 st2:Stmt}{i:Nat}{N:List Str}{js:List (Option Nat)}{scope:Scope}{tg elt:Expr}{fi1 fi2:Sg->R (List PyData)}{fs:PyData->Sg->Option Sg}{is:List Nat}{g:TG}{fk fe:Sg->R PyData}{fr:Sg->R Fw}
  (h1:PS X st1 (l3 (pL X N scope js tg elt [] (tI c E fi1)) (jW i))) (hj:js[0]? = some none)
  (hb:∀ (cl:List (Str×Addr)) (C:Addr) (s:Shared) (H0:Hp) (fp:List Addr),PG (eQ X N scope cl C s H0 fp) tg (jW 0)/\PE (eQ X N scope cl C s H0 fp) elt (aIT gG))
  (hg:Tg c g fs is) (hi:i∉is)
  (h2:PS X st2 (aDF (tI0 c E fi2) g (vE (tBM X.K "list" sM (tOp (rIx X.K) (j9 i) (tV (aV c) c E fk)) (d0 (tV (bT c) c E fe) gG)))))
  (hr:kX X c E rest fr):kX X c E (st1::st2::rest) (aN (aAY i fi1 fi2 fs fk fe) fr):=PSs.imp (L2.aE h1 (L2.aE h2 hr)) fun D σ H ⟨ρ,F,ab,k⟩=>by
 have k1:=Rk.bind (Rk.bind k)
 refine ⟨ρ,F,ab,k1.imp fun xs _ q J B F1 H1 s1 sb yl=>?_⟩
 by_cases hn:i < ρ.length/\iG (ρ.set i none)=true
 ·rw[if_pos hn] at q
  obtain ⟨hil,hno⟩:=hn
  refine yO (n:=xs.length) (fun m acc H'=>∃ F' qs,Ext F1 H1 F' H'/\acc=qs.map V.ref/\qs.length=m/\qs.Nodup/\∀ r∈qs,H1 r=none/\H' r=some (.lst [])/\F' r=none) yl.len ⟨F1,[],Ext.refl s1.fh,rfl,rfl,List.nodup_nil,fun r hr=>by simp at hr⟩ ?_ ?_ ?_ ?_ ?_
  ·rintro m acc H' _ ⟨F',qs,_,rfl,h,_⟩;rw[List.length_map,h];exact Nat.le_refl _
  ·rintro m acc H' hlt ⟨F',qs,e1,_⟩
   exact yl.go m F' H' e1.ff e1.fh (fun a o z=>e1.hh a o (sb a o z)) hlt
  ·rintro acc H' ⟨F',qs,e1,_⟩
   exact yl.stop F' H' e1.ff e1.fh (fun a o z=>e1.hh a o (sb a o z))
  ·rintro m v acc Ha Hb hlt ⟨F',qs,e1,rfl,hlen,nd,hq⟩ hy
   obtain ⟨F2,e2,rx⟩:=yl.yld m F' Ha v Hb xs[m] e1.ff e1.fh (fun a o z=>e1.hh a o (sb a o z)) hy (List.getElem?_eq_getElem hlt)
   intro cl C s H0 fp
   obtain ⟨hpg,hpe⟩:=hb cl C s H0 fp
   refine ⟨_,_,_,hpg,L2.jI,hpe,fun σ0 k0=>⟨wZ (is:=[0]) k0 List.length_set (fun j hj=>List.getElem?_set_ne (fun z=>hj (by simp[z]))) (fun j hj=>by rw[List.mem_singleton.mp hj];assumption),?_⟩⟩
   dsimp only[aI2]
   rw[if_pos rfl]
   refine ⟨Nat.zero_le _,fun r hr=>?_⟩
   have e3:Ext F2 Hb F2 (upd Hb r (.lst [])):=Ext.own e2.fh hr
   refine ⟨F2,qs++[r],e1.trans (e2.trans e3),by rw[List.map_append];rfl,by rw[List.length_append,hlen];rfl,?_,fun x hx=>?_⟩
   ·rw[List.nodup_append]
    refine ⟨nd,by simp,fun a ha b hb z=>?_⟩
    rw[List.mem_singleton] at hb
    subst hb z
    have:=e2.hh _ _ (hq a ha).2.1
    rw[hr] at this
    cases this
   ·rcases List.mem_append.mp hx with z|z
    ·obtain ⟨y1,y2,y3⟩:=hq x z
     have e23:=e2.trans e3
     exact ⟨y1,e23.hh _ _ y2,e23.stay y3 y2 (fun _ z=>nomatch z)⟩
    ·rw[List.mem_singleton.mp z]
     exact ⟨cA (e1.trans e2).hh hr,aW,cA e2.fh hr⟩
  ·rintro acc H2 ⟨F2,qs,e1,rfl,hlen,nd,hq⟩ p hp
   have e2:Ext F2 H2 F2 (upd H2 p (.lst (qs.map V.ref))):=Ext.own e1.fh hp
   have hpq:p∉qs:=fun z=>by have:=(hq p z).2.1;rw[hp] at this;cases this
   have hsl:i < σ.length:=by rw[<-ab.len];exact hil
   have ab2:Ab c (ρ.set i none) (σ.set i (some (.ref p))) F2 (upd H2 p (.lst (qs.map V.ref))):=((ab.ext s1).ext (e1.trans e2)).drop9 i (.ref p)
   have O2:OwnL c F2 (upd H2 p (.lst (qs.map V.ref))) (σ.set i (some (.ref p))) i p qs (List.replicate xs.length []):=by
    refine ⟨List.getElem?_set_self hsl,aW,cA e1.fh hp,cA (ab.ext s1).h0 (cA e1.hh hp),hpq,nd,by rw[List.length_replicate,hlen],fun j r vs h1 h2=>?_⟩
    obtain ⟨y1,y2,y3⟩:=hq r (List.mem_of_getElem? h1)
    rw[List.getElem?_replicate] at h2
    split at h2
    ·cases h2
     exact ⟨e2.hh _ _ y2,y3,cA (ab.ext s1).h0 y1⟩
    ·cases h2
   have sF:aO F F2:=fun a o z=>e1.ff a o (s1.ff a o z)
   show tI0 c E fi2 (σ.set i (some (.ref p))) (upd H2 p (.lst (qs.map V.ref))) _
   generalize ρ.set i none=ρ1 at *
   generalize σ.set i (some (.ref p))=σ1 at *
   generalize upd H2 p (.lst (qs.map V.ref))=H3 at *
   refine ⟨ρ1,F2,ab2,?_⟩
   refine (show Rk c E F2 H3 (fi2 ρ1) _ from Rk.bind q).imp fun ys _ q J F4 H4 s4 yl4=>?_
   refine ⟨fun m n σ' H'=>n=ys.length - m/\m<=ys.length/\∃ ρ' F' vss xss,aO F4 F'/\Ab c ρ' σ' F' H'/\OwnL c F' H' σ' i p qs vss/\xss.length=qs.length/\iG ρ'=true/\(∀ (j:Nat) vs xs,vss[j]? = some vs->xss[j]? = some xs->DatVs c.K F' vs xs)/\Rk c E F' H' ((lT fs fk fe (ys.drop m) xss ρ').bind (aF1 i)) (aF2 c E F H D fr),⟨ys.length,by simp,Nat.zero_le _,ρ1,F4,List.replicate xs.length [],List.replicate xs.length [],cU _,ab2.ext s4,O2.ext s4,by rw[List.length_replicate,hlen],hno,fun j vs xs h1 h2=>?_,q⟩,?_⟩
   ·rw[List.getElem?_replicate] at h1 h2
    split at h1
    ·rename_i hl
     rw[if_pos hl] at h2
     cases h1;cases h2;exact .nil
    ·cases h1
   ·rintro m n σ' H' ⟨rfl,hm,ρ',F',vss,xss,s5,ab5,O5,hxs,hno5,hd5,k5⟩
    by_cases hlt:m < ys.length
    ·refine .inr ⟨yl4.go m F' H' s5 ab5.fh iR hlt,fun σ'' H''=>∃ ρ' F' vss xss,aO F4 F'/\Ab c ρ' σ'' F' H''/\OwnL c F' H'' σ'' i p qs vss/\xss.length=qs.length/\iG ρ'=true/\(∀ (j:Nat) vs xs,vss[j]? = some vs->xss[j]? = some xs->DatVs c.K F' vs xs)/\Rk c E F' H'' ((lT fs fk fe (ys.drop (m+1)) xss ρ').bind (aF1 i)) (aF2 c E F H D fr),fun σ'' H'' w=>⟨ys.length - (m+1),by omega,rfl,hlt,w⟩,fun v H6 y=>?_⟩
     obtain ⟨F6,e6,rv⟩:=yl4.yld m F' H' v H6 ys[m] s5 ab5.fh iR y (List.getElem?_eq_getElem hlt)
     have hdr:ys.drop m=ys[m]::ys.drop (m+1):=List.drop_eq_getElem_cons hlt
     rw[hdr] at k5
     unfold lT at k5
     cases hf:fs ys[m] ρ' with
     | none=>rw[hf] at k5;exact k5.elim
     | some ρ7=>
      rw[hf,fX,R.bind_ok] at k5
      refine hg v ys[m] ρ' ρ7 σ' F6 H6 _ (ab5.ext e6) rv hf fun σ7 hl7 hk7 ab7=>?_
      have O7:OwnL c F6 H6 σ7 i p qs vss:=by
       have z:=O5.ext e6
       exact ⟨by rw[hk7 i hi];exact z.s,z.hp,z.fp,z.p0,z.np,z.nd,z.len,z.q⟩
      by_cases hno7:iG ρ7=true
      ·rw[if_pos hno7] at k5
       refine ⟨.ref p,O7.s,ρ7,F6,ab7,?_⟩
       refine (show Rk c E F6 H6 (fk ρ7) _ from Rk.bind (Rk.bind k5)).imp fun kd _ k5 u F8 H8 e8 r8=>?_
       cases kd with
       | int kk=>
        dsimp only at k5
        obtain rfl:=aY.int_of r8
        have O8:=O7.ext e8
        cases hx:ixN xss.length kk with
        | none=>rw[hx] at k5;exact k5.elim
        | some j=>
         rw[hx] at k5
         have hjl:j < xss.length:=(yL hx).2.1
         have hjq:j < qs.length:=by omega
         have hjv:j < vss.length:=by rw[O8.len];exact hjq
         have eq:qs[j]? = some qs[j]:=List.getElem?_eq_getElem hjq
         have ev:vss[j]? = some vss[j]:=List.getElem?_eq_getElem hjv
         have ex:xss[j]? = some xss[j]:=List.getElem?_eq_getElem hjl
         obtain ⟨y1,y2,y3⟩:=O8.q j _ _ eq ev
         refine .inl ⟨p,qs.map V.ref,kk,V.ref qs[j],rfl,rfl,SqL.of O8.hp,?_,?_⟩
         ·unfold atI
          rw[List.length_map,<-hxs,hx]
          show (qs.map V.ref)[j]? = _
          rw[List.getElem?_map,eq];rfl
         ·refine ⟨.inl ⟨rfl,_,SqL.of y1⟩,ρ7,F8,ab7.ext e8,?_⟩
          refine (show Rk c E F8 H8 (fe ρ7) _ from Rk.bind k5).imp fun x _ k5 u F9 H9 e9 r9=>?_
          have O9:=O8.ext e9
          have ab9:=(ab7.ext e8).ext e9
          obtain ⟨z1,z2,z3⟩:=O9.q j _ _ eq ev
          have hgd:xss.getD j []=xss[j]:=by rw[List.getD_eq_getElem?_getD,ex];rfl
          rw[hgd] at k5
          by_cases hz:xss[j].length < 16777216
          ·rw[if_pos hz] at k5
           have eall:Ext F' H' F9 H9:=e6.trans (e8.trans e9)
           have dj:DatVs c.K F9 vss[j] xss[j]:=(hd5 j _ _ ev ex).same eall.ff
           refine ⟨qs[j],vss[j],u,rfl,rfl,z1,by rw[dj.length,dQ];exact hz,?_⟩
           refine ⟨ρ7,F9,vss.set j (vss[j]++[u]),xss.set j (xss[j]++[x]),fun a o z=>eall.ff a o (s5 a o z),ab9.off9 z2 z3 (nQ hno7),O9.put eq ev,by rw[List.length_set];exact hxs,hno7,fun l vs xs e1 e2=>?_,?_⟩
           ·rcases get_set e1 with ⟨e,w,_⟩|⟨ne,w⟩
            ·subst e w
             rw[List.getElem?_set_self hjl] at e2
             cases e2
             exact dj.append (.cons r9 .nil)
            ·rw[List.getElem?_set_ne ne] at e2
             exact (hd5 l vs xs w e2).same eall.ff
           ·exact aLQ k5
          ·rw[if_neg hz] at k5;exact k5.elim
       | _=>exact k5.elim
      ·rw[if_neg hno7] at k5;exact k5.elim
    ·have e:m=ys.length:=by omega
     subst e
     rw[List.drop_length] at k5
     refine .inl ⟨yl4.stop F' H' s5 ab5.fh iR,?_⟩
     obtain ⟨F9,s9,ab9⟩:=O5.done ab5 hno5 hxs hd5
     refine ⟨_,F9,ab9,?_⟩
     exact Rk.fw (H:=H) (fun a o z=>s9 a o (s5 a o (s4.ff a o (sF a o z)))) k5
 ·rw[if_neg hn] at q;exact q.elim
end
end Fl
namespace L2
open PySem PySem.Spec PyProof.Rows
def tChain3(r r' r'':R2)(ta tb tc td:TE):TE:=fun σ H Q=>ta σ H fun x H1=>tb σ H1 fun y H2=>r x y H2 fun z H3=>∃ k,z=.bl k /\
 (if k=true then tc σ H3 fun w' H4=>r' y w' H4 fun z H5=>∃ k,z=.bl k/\(if k=true then td σ H5 fun u H6=>r'' w' u H6 Q else Q (.bl false) H5) else Q (.bl false) H3)
theorem pD{X:Cx}{a b c d:Expr}{ta tb tc td:TE}{pos:Pos}{op op' op'':CmpOp}{r r' r'':R2}(ho:OpR X (compareOp op) r)(ho':OpR X (compareOp op') r')(ho'':OpR X (compareOp op'') r'')(ha:PE X a ta)(hb:PE X b tb)(hc:PE X c tc)(hd:PE X d td)
  (hm:lastMarks [op,op',op''] [b,c,d]=false:=by with_unfolding_all rfl):PT X (.Compare a [op,op',op''] [b,c,d] pos) (vG (tChain3 r r' r'' ta tb tc td)):=by
 intro pins s σ H Q I h
 refine isTrue_chain (thn (ha pins s σ H _ I h) fun v s1 ⟨x,H1,I1,r1,q1⟩=>test_link (thn (hb pins s1 σ H1 _ I1 q1) fun u s2 ⟨y,H2,I2,r2,q2⟩=>
  thn (ho pins s2 σ H2 x y v u _ I2 r1 r2 q2) fun d s3 ⟨z,H3,I3,r3,k,e,q3⟩=>?_)) hm
 subst e
 cases r3
 refine wpAny_truthy_bool ?_
 cases k with
 | false=>
  obtain ⟨k',e',q'⟩:=q3
  cases e'
  exact ite_ff ⟨H3,I3,q'⟩
 | true=>
  refine ite_tt (test_link (thn (hc pins s3 σ H3 _ I3 q3) fun w' s4 ⟨z',H4,I4,r4,q4⟩=>thn (ho' pins s4 σ H4 y z' u w' _ I4 r2 r4 q4) fun d' s5 zz0=>?_))
  obtain ⟨z2,H5,I5,r5,k2,e2,q5⟩:=zz0
  subst e2
  cases r5
  refine wpAny_truthy_bool ?_
  cases k2 with
  | false=>
   obtain ⟨k',e',q'⟩:=q5
   cases e'
   exact ite_ff ⟨H5,I5,q'⟩
  | true=>
   refine ite_tt (test_last (thn (hd pins s5 σ H5 _ I5 q5) fun w6 s6 ⟨z6,H6,I6,r6,q6⟩=>thn (ho'' pins s6 σ H6 z' z6 w' w6 _ I6 r4 r6 q6) fun d' s7 zz0=>?_))
   obtain ⟨z7,H7,I7,r7,k7,e7,q7⟩:=zz0
   subst e7
   cases r7
   exact wpAny_truthy_bool ⟨H7,I7,q7⟩
theorem aCW{X:Cx}{a b c d:Expr}{ta tb tc td:TE}{pos:Pos}{op op' op'':CmpOp}{r r' r'':R2}(ho:OpR X (compareOp op) r)(ho':OpR X (compareOp op') r')(ho'':OpR X (compareOp op'') r'')(ha:PE X a ta)(hb:PE X b tb)(hc:PE X c tc)(hd:PE X d td)
  (hm:lastMarks [op,op',op''] [b,c,d]=false:=by with_unfolding_all rfl):PE X (.Compare a [op,op',op''] [b,c,d] pos) (tChain3 r r' r'' ta tb tc td):=by
 intro pins s σ H Q I h
 refine Compare_chain (thn (ha pins s σ H _ I h) fun v s1 ⟨x,H1,I1,r1,q1⟩=>chain_link (thn (hb pins s1 σ H1 _ I1 q1) fun u s2 ⟨y,H2,I2,r2,q2⟩=>
  thn (ho pins s2 σ H2 x y v u _ I2 r1 r2 q2) fun d s3 ⟨z,H3,I3,r3,k,e,q3⟩=>?_)) hm
 subst e
 cases r3
 refine wpAny_truthy_bool ?_
 cases k with
 | false=>exact ite_ff ⟨.bl false,H3,I3,rfl,q3⟩
 | true=>
  refine ite_tt (chain_link (thn (hc pins s3 σ H3 _ I3 q3) fun w' s4 ⟨z',H4,I4,r4,q4⟩=>thn (ho' pins s4 σ H4 y z' u w' _ I4 r2 r4 q4) fun d' s5 zz0=>?_))
  obtain ⟨z2,H5,I5,r5,k2,e2,q5⟩:=zz0
  subst e2
  cases r5
  refine wpAny_truthy_bool ?_
  cases k2 with
  | false=>exact ite_ff ⟨.bl false,H5,I5,rfl,q5⟩
  | true=>exact ite_tt (chain_last (thn (hd pins s5 σ H5 _ I5 q5) fun w6 s6 ⟨z6,H6,I6,r6,q6⟩=>ho'' pins s6 σ H6 z' z6 w' w6 Q I6 r4 r6 q6))
end L2
namespace Fl
open PySem L2 PyProof.Rows
def nR(g g' g'':PyData->PyData->R PyData)(fa fb fc fd:Sg->R PyData):Sg->R PyData:=fun ρ=>(fa ρ).bind fun x=>(fb ρ).bind fun y=>(g x y).bind fun z=>(asB z).bind fun k=>if k=true then (eCh g' g'' (fun _=>.ok y) fc fd ρ) else .ok (.bool false)
section
variable{X:Cx}{c:Ct}{E:XK}{a b:Expr}{pos:Pos}
theorem zE{g g' g'':PyData->PyData->R PyData}(hp:b8 g)(hp':b8 g')(hp'':b8 g''){fa fb fc fd:Sg->R PyData}{σ:L2.St}{H:Hp}{Q:VK}(h:tV (bT c) c E (nR g g' g'' fa fb fc fd) σ H Q) :
  tChain3 (r2D (aV c) (aV c) (bT c) g) (r2D (aV c) (aV c) (bT c) g') (r2D (aV c) (aV c) (bT c) g'') (tV (aV c) c E fa) (tV (aV c) c E fb) (tV (aV c) c E fc) (tV (aV c) c E fd) σ H Q:=by
 obtain ⟨ρ,F,ab,h⟩:=h
 refine ⟨ρ,F,ab,(Rk.bind h).imp fun x _ q v F1 H1 s1 rv=>?_⟩
 refine ⟨ρ,F1,ab.ext s1,((Rk.bind q).ext s1).imp fun y _ q u F2 H2 s2 ru=>?_⟩
 cases eg:g x y with
 | bad=>rw[eg] at q;exact q.elim
 | ex e=>exact absurd eg (hp x y e)
 | ok z=>
  rw[eg] at q
  refine ⟨H,H1,F2,x,y,z,s2.fh,aY.ext s2 rv,ru,eg,fun w F3 H3 s3 rw'=>?_⟩
  have s13:=(s1.trans s2).trans s3
  cases z with
  | bool k=>
   refine ⟨k,DatV.bl_of rw',?_⟩
   cases k with
   | false=>exact oM (Rk.ok q (.bl false) F3 H3 s13 (.bl false))
   | true=>
    have q':Rk c E F H ((fc ρ).bind fun w=>(g' y w).bind fun z=>(asB z).bind fun k=>if k=true then (fd ρ).bind fun u=>g'' w u else .ok (.bool false)) (fun d=>∀ v F' H',Ext F H F' H'->bT c d v H F' H'->Q v H'):=q
    refine oN ⟨ρ,F3,ab.ext s13,((Rk.bind q').ext s13).imp fun w _ q v' F4 H4 s4 rw2=>?_⟩
    cases eg2:g' y w with
    | bad=>rw[eg2] at q;exact q.elim
    | ex e=>exact absurd eg2 (hp' y w e)
    | ok z2=>
     rw[eg2] at q
     refine ⟨H1,H3,F4,y,w,z2,s4.fh,aY.ext (s3.trans s4) ru,rw2,eg2,fun w' F5 H5 s5 r5=>?_⟩
     have s15:=(s13.trans s4).trans s5
     cases z2 with
     | bool k2=>
      refine ⟨k2,DatV.bl_of r5,?_⟩
      cases k2 with
      | false=>exact oM (Rk.ok q (.bl false) F5 H5 s15 (.bl false))
      | true=>
       have q':Rk c E F H ((fd ρ).bind fun u=>g'' w u) (fun d=>∀ v F' H',Ext F H F' H'->bT c d v H F' H'->Q v H'):=q
       refine oN ⟨ρ,F5,ab.ext s15,((Rk.bind q').ext s15).imp fun u6 _ q v6 F6 H6 s6 rw6=>?_⟩
       cases eg3:g'' w u6 with
       | bad=>rw[eg3] at q;exact q.elim
       | ex e=>exact absurd eg3 (hp'' w u6 e)
       | ok z3=>
        rw[eg3] at q
        exact ⟨H3,H5,F6,w,u6,z3,s6.fh,aY.ext (s5.trans s6) rw2,rw6,eg3,fun w' F7 H7 s7 r7=>Rk.ok q w' F7 H7 ((s15.trans s6).trans s7) r7⟩
     | _=>exact False.elim q
  | _=>exact False.elim q
theorem aCX{op op' op'':CmpOp}{g g' g'':PyData->PyData->R PyData}{cc dd:Expr}{fa fb fc fd:Sg->R PyData}(ho:OpR X (compareOp op) (r2D (aV c) (aV c) (bT c) g))(hp:b8 g)(ho':OpR X (compareOp op') (r2D (aV c) (aV c) (bT c) g'))(hp':b8 g')(ho'':OpR X (compareOp op'') (r2D (aV c) (aV c) (bT c) g''))(hp'':b8 g'')
  (ha:PR X c E a fa) (hb:PR X c E b fb) (hc:PR X c E cc fc) (hd:PR X c E dd fd) (hm:lastMarks [op,op',op''] [b,cc,dd]=false:=by with_unfolding_all rfl):PD X c E (.Compare a [op,op',op''] [b,cc,dd] pos) (nR g g' g'' fa fb fc fd):=
 PE.imp (L2.aCW ho ho' ho'' ha hb hc hd hm) fun σ H Q h=>zE hp hp' hp'' h
theorem pD{op op' op'':CmpOp}{g g' g'':PyData->PyData->R PyData}{cc dd:Expr}{fa fb fc fd:Sg->R PyData}(ho:OpR X (compareOp op) (r2D (aV c) (aV c) (bT c) g))(hp:b8 g)(ho':OpR X (compareOp op') (r2D (aV c) (aV c) (bT c) g'))(hp':b8 g')(ho'':OpR X (compareOp op'') (r2D (aV c) (aV c) (bT c) g''))(hp'':b8 g'')
  (ha:PR X c E a fa) (hb:PR X c E b fb) (hc:PR X c E cc fc) (hd:PR X c E dd fd) (hm:lastMarks [op,op',op''] [b,cc,dd]=false:=by with_unfolding_all rfl):PTf X c E (.Compare a [op,op',op''] [b,cc,dd] pos) (e1 asB (nR g g' g'' fa fb fc fd)):=
 PT.imp (L2.pD ho ho' ho'' ha hb hc hd hm) fun σ H Q h=>zE hp hp' hp'' (mJ h)
end
end Fl
namespace Zp
open PySem L2
end Zp
namespace Fl
open PySem L2 PyProof.Rows
end Fl
namespace Zp
open PySem
structure Jk(s0:Heap)(d it S:Addr)(ar:Array DictEntry)(ep:Nat)(acc:Array Value)(h:Heap):Prop where
 size:acc.size<=ar.size
 told:acc.toList=(ar.toList.take acc.size).map (·.key)
 iter:h.IsKeyIter it d acc.size ar.size ep
 raw:Raw h d ar ep
 keep:∀ c o,c≠it->c≠S->s0.get? c=some o->h.get? c=some o
end Zp
namespace Zp
open PySem
end Zp
namespace Fl
open PySem L2 PyProof.Rows
def dPow:PyData->PyData->R PyData
 | .int i,.int j=>if 0<=j/\j<=1000000/\i.natAbs < 2 ^ 64 then .ok (.int (i ^ j.toNat)) else .bad
 | _,_=>.bad
section
variable{X:Cx}{c:Ct}{E:XK}{st:Stmt}
theorem aHS:OpR X (binaryOp .Pow) (r2D (aV c) (aV c) (bT c) dPow):=iZ aIO (fun _ _ _=>.int _) fun a b d h=>by
 unfold dPow at h;split at h
 ·split at h
  · rename_i hc; cases h; exact ⟨_, _, rfl, rfl, hc, rfl⟩
  · cases h
 ·cases h
theorem aCY:b8 dPow:=by intro a b e h;unfold dPow at h;split at h<;>(try split at h)<;>cases h
end
end Fl
namespace Fl
open PySem L2 PyProof.Rows
def BxK(c:Ct)(E':XK)(σ:L2.St)(D:iQ)(F H:Hp):R Unit->Prop
 | .bad=>False
 | .ok _=>∀ F' H',Ext F H F' H'->D.nx σ H'
 | .ex e=>∀ a C F' H',Ext F H F' H'->nC c.K c.mg F' e a C->E' (.ref C) (some a) H'
theorem BxK.ext{c:Ct}{E':XK}{σ:L2.St}{D:iQ}{F H F1 H1:Hp}(s:Ext F H F1 H1):∀ {r:R Unit},BxK c E' σ D F H r->BxK c E' σ D F1 H1 r
 | .bad,h=>h
 | .ok _,h=>fun F' H' e=>h F' H' (s.trans e)
 | .ex _,h=>fun a C F' H' e=>h a C F' H' (s.trans e)
def aDE:Sg->R Unit:=fun _=>.ok ()
end Fl
namespace Fl
open PySem L2 PyProof.Rows
theorem xU{x:Const}{es:List Expr}{k:Nat}{p:Pos}{env:Env}:starEach (.Constant x k p::es) env=(false,eval (.Constant x k p) env)::starEach es env:=by rfl
def aMU:PyData->PyData->R PyData
 | .bool a,.bool b=>.ok (.bool (a == b))
 | _,_=>.bad
end Fl
namespace Fl
open PySem L2 PyProof.Rows
def aF3(xs:List PyData):PyData->R (List PyData)
 | .int i=>if xs≠[] /\ -(2 ^ 63:Int)<=i/\i < 2 ^ 63/\xs.length * i.toNat<=16777216 then .ok (List.replicate i.toNat xs).flatten else .bad
 | _=>.bad
def aLR(f:Sg->R (List PyData))(g:Sg->R PyData):Sg->R (List PyData):=fun ρ=>(f ρ).bind fun xs=>(g ρ).bind fun y=>aF3 xs y
def aJ6:PyData->PyData->R PyData
 | .bool a,.bool b=>.ok (.bool (a != b))
 | _,_=>.bad
end Fl
namespace Mc
open PySem L2 PyProof.Rows Fl
noncomputable def nY:Sg->R Fw:=(bN (vD (eC (.bool true))))
noncomputable def gC:List A->R A:=fnF 1 nY
noncomputable def nZ:Sg->R Fw:=(bN (vD (dF (aB (eC (.str "by")) (aB (eOF 0 ["LetBy","ShutOut"] "borders") aS)))))
noncomputable def gD:List A->R A:=fnF 1 nZ
noncomputable def lU:Sg->R Fw:=(bN (vD (eC (.bool true))))
noncomputable def fB:List A->R A:=fnF 1 lU
noncomputable def lV:Sg->R Fw:=(bN (vD (dF (aB (eC (.str "out")) (aB (eOF 0 ["LetBy","ShutOut"] "borders") aS)))))
noncomputable def fC:List A->R A:=fnF 1 lV
noncomputable def lW:Sg->R Fw:=(bN (vD (eC (.bool false))))
noncomputable def fD:List A->R A:=fnF 1 lW
noncomputable def lX:Sg->R Fw:=(bN (vD (dF (aB (eC (.str "ever")) (aB (eOF 0 ["LetBy","ShutOut","ForEver"] "place") (aB (eOF 0 ["LetBy","ShutOut","ForEver"] "room") (aB (eOF 0 ["ForEver"] "first") (aB (eOF 0 ["ForEver"] "again") aS))))))))
noncomputable def fF:List A->R A:=fnF 1 lX
noncomputable def lJ:Sg->R Fw:=(aN (aAY 2 (fP (e2 bL (e1 dLen (rV 1)) (eC (.int 1)))) (e2 xF (eV 0) (eSl dSl (rV 0) (oSo (eC (.int 1))) oNo)) (stT [(stN 3),(stN 4)]) (e2 (d2 kB) (e2 dIx (rV 3) (eC (.int 0))) (e2 dIx (rV 4) (eC (.int 0)))) (e2 dIx (rV 4) (eC (.int 1))))
 (bN (vD (e1 dTup (eL (i7 [none] (e1 dX (rV 2)) (stN 0) l6 (e1 dTup (rV 0))))))))
noncomputable def fV:List A->R A:=fnF 5 lJ
noncomputable def xV:Sg->R Fw:=(aN (a8 2 (bF 2 lB (aB (vV 0) (aB (vV 1) aS))))
 (aN (a8 3 (vD (e2 dIx (rV 2) (e1 dNeg (eC (.int 1))))))
 (aN (a8 4 (vD (e2 dIx (eA (bF 3 fY (aB (vV 0) (aB (vV 1) (aB (vV 3) aS))))) (eC (.int 0)))))
 (aN (sIf (e1 asB (e2 dEq (rV 4) (eC (.str "by")))) (bN (tL "LetBy" ["place","room","borders"] (aB (e2 dIx (rV 3) (eC (.int 0))) (aB (e2 dIx (rV 3) (eC (.int 1))) (aB (eA (bF 2 fV (aB (vV 2) (aB (vV 1) aS)))) aS))))) sNx)
 (aN (sIf (e1 asB (e2 dEq (rV 4) (eC (.str "out")))) (bN (tL "ShutOut" ["place","room","borders"] (aB (e2 dIx (rV 3) (eC (.int 0))) (aB (e2 dIx (rV 3) (eC (.int 1))) (aB (eA (bF 2 fV (aB (vV 2) (aB (vV 1) aS)))) aS))))) sNx)
 (bN (tL "ForEver" ["place","room","first","again"] (aB (e2 dIx (rV 3) (eC (.int 0))) (aB (e2 dIx (rV 3) (eC (.int 1))) (aB (aE3 (rV 2) (rV 3)) (aB (e2 dSub (e1 dLen (rV 2)) (eC (.int 1))) aS)))))))))))
noncomputable def pE:List A->R A:=fnF 5 xV
noncomputable def nS:Sg->R Fw:=(aN (sIf (e1 asB (e2 dLt (rV 2) (e1 dLen (rV 0)))) (bN (vD (e2 dIx (rV 0) (rV 2)))) sNx)
 (bN (vD (e2 dIx (rV 0) (e2 bL (eOF 1 ["ForEver"] "first") (e2 dMod (e2 dSub (rV 2) (eOF 1 ["ForEver"] "first")) (e2 dSub (eOF 1 ["ForEver"] "again") (eOF 1 ["ForEver"] "first"))))))))
noncomputable def g9:List A->R A:=fnF 3 nS
noncomputable def lK:Sg->R Fw:=(aN (a8 4 (vD (e2 dIx (rV 3) (eC (.int 3)))))
 (aN (a8 5 (vD (e2 dIx (rV 3) (eC (.int 4)))))
 (aN (sIf (wY (e1 asB (nR dLe dLt dLe (eC (.int 0)) (rV 4) (rV 5) (e2 dMul (e1 dLen (rV 0)) (e2 bL (e1 dLen (rV 1)) (eC (.int 2))))))) (bN (vD (eC (.bool false)))) sNx)
 (aN (a8 6 (bF 2 lB (aB (vV 0) (aB (vV 1) aS))))
 (aN (a8 7 (vD (dF (aB (e2 dIx (rV 3) (eC (.int 1))) (aB (e2 dIx (rV 3) (eC (.int 2))) aS)))))
 (bN (vD (i6 (e2 dEq (eA (bF 3 g9 (aB (vV 6) (aB (vO 2) (aB (vV 4) aS))))) (rV 7)) (e2 dEq (eA (bF 3 g9 (aB (vV 6) (aB (vO 2) (aB (vV 5) aS))))) (rV 7))))))))))
noncomputable def gT:List A->R A:=fnF 8 lK
noncomputable def pU:Sg->R Fw:=(aN (a8 3 (bF 2 pE (aB (vV 0) (aB (vV 1) aS))))
 (aN (sIf (e1 asB (eA (vMt (vO 3) "stops" [("LetBy",gC),("ShutOut",fB),("ForEver",fD)]))) (bN (vD (e2 dEq (rV 2) (eA (vMt (vO 3) "paper" [("LetBy",gD),("ShutOut",fC),("ForEver",fF)]))))) sNx)
 (bN (vD (i6 (e2 dEq (e2 dIx (rV 2) (eC (.int 0))) (eC (.str "ever"))) (eA (bF 4 gT (aB (vV 0) (aB (vV 1) (aB (vO 3) (aB (vV 2) aS)))))))))))
noncomputable def hJ:List A->R A:=fnF 4 pU
end Mc
namespace Mc
open PySem L2 PyProof.Rows Fl
noncomputable def kC:Sg->R Fw:=(aN (fH 3 (fG (aB (dF (aB (eC (.int 0)) (aB (eC (.int 0)) aS))) aS)))
 (aN (cB (e1 asB (e2 dLe (e1 dLen (rV 3)) (rV 2))) (aN (a8 4 (bF 3 eN (aB (vV 0) (aB (vV 1) (aB (vD (e2 dIx (rV 3) (e1 dNeg (eC (.int 1))))) aS)))))
 (aN (sIf (e1 asB (e2 dIs (rV 4) (eC .none))) (sFz 3 (bN (vV 3))) sNx)
 (f8 3 (eV 4)))))
 (sFz 3 (bN (vV 3)))))
noncomputable def eX:List A->R A:=fnF 5 kC
noncomputable def gU:Sg->R Fw:=(aN (a8 3 (vD (e2 dMod (e2 dDiv (rV 0) (eC (.int 8))) (e2 bL (rV 2) (eC (.int 2))))))
 (aN (a8 4 (vD (e2 bL (e2 bL (rV 3) (eC (.int 1))) (e2 dMod (e2 dDiv (rV 0) (eC (.int 4096))) (e2 bL (rV 2) (eC (.int 1)))))))
 (aN (a8 5 (vD (e2 dMod (rV 0) (eC (.int 8)))))
 (aN (sIf (e1 asB (e2 dLt (rV 5) (eC (.int 4)))) (aN (a8 6 (vD (e2 dIx (rV 1) (e2 dMod (e2 dDiv (rV 0) (eC (.int 8))) (e1 dLen (rV 1))))))
 (aN (fH 7 (i7 [none,some 1,some 6] (fP (e1 dLen (rV 1))) (stN 0) (e1 asB (e2 dEq (e2 dIx (rV 1) (rV 0)) (rV 2))) (eV 0)))
 (aN (a8 3 (vD (e2 dIx (rV 7) (e2 dMod (e2 dDiv (rV 0) (eC (.int 4096))) (e1 dLen (rV 7))))))
 (a8 4 (vD (e2 dIx (rV 7) (e2 dSub (e1 dNeg (eC (.int 1))) (e2 dMod (e2 dDiv (rV 0) (eC (.int 65536))) (e1 dLen (rV 7)))))))))) sNx)
 (aN (sIf (e1 asB (e2 dEq (rV 5) (eC (.int 4)))) (aN (a8 4 (vD (e2 dSub (e2 bL (rV 2) (e2 dMod (e2 dDiv (rV 0) (eC (.int 8))) (eC (.int 3)))) (eC (.int 1)))))
 (a8 3 (vD (e2 dSub (e2 dSub (rV 4) (eC (.int 1))) (e2 dMod (e2 dDiv (rV 0) (eC (.int 64))) (e2 bL (rV 2) (eC (.int 1)))))))) sNx)
 (aN (sIf (e1 asB (e2 dEq (rV 5) (eC (.int 5)))) (a8 3 (vD (e2 dSub (e2 dSub (rV 3) (eC (.int 1))) (e2 dMod (e2 dDiv (rV 0) (eC (.int 64))) (e2 bL (rV 2) (eC (.int 1))))))) sNx)
 (aN (sIf (e1 asB (e2 dEq (rV 5) (eC (.int 6)))) (a8 4 (vD (e2 dIx (eL (fG (aB (eV 3) (aB (e2 dSub (rV 3) (eC (.int 1))) (aB (e2 dPow (eC (.int 10)) (eC (.int 40))) aS))))) (e2 dMod (e2 dDiv (rV 0) (eC (.int 64))) (eC (.int 3)))))) sNx)
 (bN (vD (dF (aB (eV 3) (aB (eV 4) aS))))))))))))
noncomputable def dR:List A->R A:=fnF 8 gU
noncomputable def aAZ:Sg->R Fw:=(aN (nK (stT [(stN 1),(stN 2)]) (eA (bF 1 fS (aB (vV 0) aS))))
 (aN (a8 3 (vD (e2 dMul (e1 dLen (rV 1)) (e2 bL (e1 dLen (rV 2)) (eC (.int 2))))))
 (aN (a8 4 (bF 3 eX (aB (vV 1) (aB (vV 2) (aB (vV 3) aS)))))
 (aN (nH (pQ (eC (.int 24)) (eC (.int 40))) (stN 5) (aN (a8 6 (vD (e1 (d1 o0) (eA (bF 2 bC (aB (vV 0) (aB (vV 5) aS)))))))
 (aN (nK (stT [(stN 7),(stN 8)]) (eA (bF 3 dR (aB (vV 6) (aB (vV 4) (aB (vV 3) aS))))))
 (aN (a8 9 (vD (dF (aB (e2 dSub (e2 dMod (e2 dDiv (rV 6) (eC (.int 64))) (e2 bL (e1 dLen (rV 2)) (eC (.int 6)))) (eC (.int 2))) (aB (e2 dSub (e2 dMod (e2 dDiv (rV 6) (eC (.int 8))) (e2 bL (e1 dLen (rV 1)) (eC (.int 2)))) (eC (.int 1))) aS)))))
 (aN (sIf (iI (e1 asB (eCh dLe dLt (eC (.int 0)) (rV 7) (e1 dLen (rV 4)))) (e1 asB (e2 dGt (e2 dMod (rV 6) (eC (.int 5))) (eC (.int 0))))) (a8 9 (vD (e2 dIx (rV 4) (rV 7)))) sNx)
 (aN (a8 10 (vD (i6 (nR dLe dLt dLe (eC (.int 0)) (rV 7) (rV 8) (rV 3)) (e2 dLt (rV 8) (e1 dLen (rV 4))))))
 (aN (a8 10 (vD (i6 (eV 10) (i6 (e2 dEq (e2 dIx (rV 4) (rV 7)) (rV 9)) (e2 dEq (e2 dIx (rV 4) (rV 8)) (rV 9))))))
 (sIf (wY (e1 asB (eA (bF 2 fU (aB (bF 3 hJ (aB (vV 1) (aB (vV 2) (aB (vD (dF (aB (eC (.str "ever")) (aB (e2 dIx (rV 9) (eC (.int 0))) (aB (e2 dIx (rV 9) (eC (.int 1))) (aB (eV 7) (aB (eV 8) aS))))))) aS)))) (aB (vV 10) aS)))))) (bN (vD (eC (.bool false)))) sNx))))))))
 (bN (vD (eC (.bool true))))))))
noncomputable def aA0:List A->R A:=fnF 11 aAZ
end Mc
namespace Mc
open PySem L2 PyProof.Rows Fl
def top(i:Nat):Stmt:=PySem.Challenge.pw_striproam_k09_papers_for_ever.main.body.getD i (.Pass ⟨0,0,0,0⟩)
structure Txt(w:World)(K:Frag)(mg:Str->Option Value):Prop where
 b_abs:mg "abs"=none
 b_bool:mg "bool"=none
 b_enumerate:mg "enumerate"=none
 b_int:mg "int"=none
 b_isinstance:mg "isinstance"=none
 b_len:mg "len"=none
 b_min:mg "min"=none
 b_range:mg "range"=none
 b_str:mg "str"=none
 b_tuple:mg "tuple"=none
 b_zip:mg "zip"=none
 g_BEGIN:∃ a,mg "BEGIN"=some (.ref a)/\m5 K a [.int 0,.int 0]
 g_SIGNS:∃ t,mg "SIGNS"=some (.str "abc" t)
 g_STOPS:∃ a,mg "STOPS"=some (.ref a)/\m5 K a [.str "by",.str "out"]
section
variable{P:Program}{w:World}{K:Frag}{mg:Str->Option Value}{base:Heap}{TH:Hp}
theorem mV:FnScope ["self"] ["self"] (aL (aH (top 13) 2)):=by constructor<;>first|rfl|decide +kernel
theorem rS(T:Txt w K mg){f:Addr}{fd:FuncData}(FL:Fun K "stops" "LetBy.stops" (aH (top 13) 2) f fd):FnOk P w K mg base (CXe P w) 1 f fd ["self"] (spF (gOf P w K mg base TH) K mg 1 gC):=
 @kP P w K mg base TH "stops" "LetBy.stops" (aH (top 13) 2) ["self"] ["self"] 0 f fd nY FL mV (fun cdv A outer s H F E hr=>by
  have nd:=mV.nd
  exact (Fl.aR (Fl.bM (aT nE))))
theorem mW:FnScope ["self"] ["self"] (aL (aH (top 13) 3)):=by constructor<;>first|rfl|decide +kernel
theorem rT(T:Txt w K mg){f:Addr}{fd:FuncData}(FL:Fun K "paper" "LetBy.paper" (aH (top 13) 3) f fd)(fo_borders:f9 K mg ["LetBy","ShutOut"] "borders"):FnOk P w K mg base (CXe P w) 1 f fd ["self"] (spF (gOf P w K mg base TH) K mg 1 gD):=
 @kP P w K mg base TH "paper" "LetBy.paper" (aH (top 13) 3) ["self"] ["self"] 0 f fd nZ FL mW (fun cdv A outer s H F E hr=>by
  have nd:=mW.nd
  exact (Fl.aR (Fl.bM (aT (dW (aM eI (aM (iE rfl rfl fo_borders (iB (pv 0) rfl)) bO)))))))
theorem lL:FnScope ["self"] ["self"] (aL (aH (top 14) 2)):=by constructor<;>first|rfl|decide +kernel
theorem pY(T:Txt w K mg){f:Addr}{fd:FuncData}(FL:Fun K "stops" "ShutOut.stops" (aH (top 14) 2) f fd):FnOk P w K mg base (CXe P w) 1 f fd ["self"] (spF (gOf P w K mg base TH) K mg 1 fB):=
 @kP P w K mg base TH "stops" "ShutOut.stops" (aH (top 14) 2) ["self"] ["self"] 0 f fd lU FL lL (fun cdv A outer s H F E hr=>by
  have nd:=lL.nd
  exact (Fl.aR (Fl.bM (aT nE))))
theorem lM:FnScope ["self"] ["self"] (aL (aH (top 14) 3)):=by constructor<;>first|rfl|decide +kernel
theorem pZ(T:Txt w K mg){f:Addr}{fd:FuncData}(FL:Fun K "paper" "ShutOut.paper" (aH (top 14) 3) f fd)(fo_borders:f9 K mg ["LetBy","ShutOut"] "borders"):FnOk P w K mg base (CXe P w) 1 f fd ["self"] (spF (gOf P w K mg base TH) K mg 1 fC):=
 @kP P w K mg base TH "paper" "ShutOut.paper" (aH (top 14) 3) ["self"] ["self"] 0 f fd lV FL lM (fun cdv A outer s H F E hr=>by
  have nd:=lM.nd
  exact (Fl.aR (Fl.bM (aT (dW (aM eI (aM (iE rfl rfl fo_borders (iB (pv 0) rfl)) bO)))))))
theorem lN:FnScope ["self"] ["self"] (aL (aH (top 15) 2)):=by constructor<;>first|rfl|decide +kernel
theorem p5(T:Txt w K mg){f:Addr}{fd:FuncData}(FL:Fun K "stops" "ForEver.stops" (aH (top 15) 2) f fd):FnOk P w K mg base (CXe P w) 1 f fd ["self"] (spF (gOf P w K mg base TH) K mg 1 fD):=
 @kP P w K mg base TH "stops" "ForEver.stops" (aH (top 15) 2) ["self"] ["self"] 0 f fd lW FL lN (fun cdv A outer s H F E hr=>by
  have nd:=lN.nd
  exact (Fl.aR (Fl.bM (aT nE))))
end
end Mc
namespace Mc
open PySem L2 PyProof.Rows Fl
section
variable{P:Program}{w:World}{K:Frag}{mg:Str->Option Value}{base:Heap}{TH:Hp}
theorem lO:FnScope ["self"] ["self"] (aL (aH (top 15) 3)):=by constructor<;>first|rfl|decide +kernel
theorem p6(T:Txt w K mg){f:Addr}{fd:FuncData}(FL:Fun K "paper" "ForEver.paper" (aH (top 15) 3) f fd)(fo_again:f9 K mg ["ForEver"] "again")(fo_first:f9 K mg ["ForEver"] "first")(fo_room:f9 K mg ["LetBy","ShutOut","ForEver"] "room")(fo_place:f9 K mg ["LetBy","ShutOut","ForEver"] "place"):FnOk P w K mg base (CXe P w) 1 f fd ["self"] (spF (gOf P w K mg base TH) K mg 1 fF):=
 @kP P w K mg base TH "paper" "ForEver.paper" (aH (top 15) 3) ["self"] ["self"] 0 f fd lX FL lO (fun cdv A outer s H F E hr=>by
  have nd:=lO.nd
  exact (Fl.aR (Fl.bM (aT (dW (@aM _ _ _ _ _ _ _ eI (aM (iE rfl rfl fo_place (iB (pv 0) rfl)) (aM (iE rfl rfl fo_room (iB (pv 0) rfl)) (aM (iE rfl rfl fo_first (iB (pv 0) rfl)) (aM (iE rfl rfl fo_again (iB (pv 0) rfl)) bO)))) xU))))))
theorem qH:FnScope ["machine"] ["machine"] (aL (top 7)):=by constructor<;>first|rfl|decide +kernel
theorem yE(T:Txt w K mg)(D:DefAt K mg "signs_of" (top 7) ["machine"]):bB P w K mg base TH 1 "signs_of" ["machine"] i8:=
 @dG P w K mg base TH "signs_of" (top 7) ["machine"] ["machine"] 0 nL D qH (fun f cdv A outer s H F E hr=>by
  have nd:=qH.nd
  exact (Fl.aR (Fl.bM (aT (c7 rfl (bR b9 rfl T.b_len PySem.boot_len (aP (aA (a9 (bA rfl) aQ (aA (a9 (bA rfl) aQ (aC (pv 0)) (aA aD))) (aA aD))) aX)))))))
theorem n4:FnScope ["signs","strip","known","at","sign"] ["signs","strip"] (aL (top 8)):=by constructor<;>first|rfl|decide +kernel
theorem uQ(T:Txt w K mg)(D:DefAt K mg "checked_by" (top 8) ["signs","strip"]){W_NoStrip C_NoStrip:Addr}(er_NoStrip:ErrAt P w K mg base "NoStrip" ["at"] W_NoStrip C_NoStrip):bB P w K mg base TH 3 "checked_by" ["signs","strip"] gO:=
 @dG P w K mg base TH "checked_by" (top 8) ["signs","strip","known","at","sign"] ["signs","strip"] 2 lA D n4 (fun f cdv A outer s H F E hr=>by
  have nd:=n4.nd
  exact (Fl.aE (Fl.aJ (L2.aJ (i:=2) nd rfl (Or.inl rfl) (aT (nI rfl (aA (gM (jF (v:=.str "abc") rfl T.g_SIGNS.choose_spec ⟨_,rfl⟩) fun _=>.str _)) vQ (vR (aC (pv 0)))))))
   (Fl.aE (Fl.eY (kY rfl (dL (cF 3) (dL (cF 4) jO)) rfl) (L2.eY (gY ⟨rfl,rfl⟩) rfl (aJJ rfl (aGQ rfl T.b_enumerate (aP (cY (pv 1)) aX)) (aD0 rfl T.b_enumerate (aP (cY (pv 1)) aX))) (kR rfl (dJ (cE (i:=3) nd rfl (Or.inl rfl)) (dJ (cE (i:=4) nd rfl (Or.inl rfl)) jG)))
   (Fl.aR (Fl.dH (Fl.cO (aG6 rfl hr.units) aB9 (aC (pv 4)) (aC (pv 2)) (by with_unfolding_all rfl)) (Fl.aR (Fl.qN er_NoStrip.m (by decide) (aBY rfl er_NoStrip rfl (hr.mono (by decide)) (aM (cY (pv 3)) bO)))) Fl.cJ))))
   (Fl.aR (Fl.bM (aU (pv 1)))))))
theorem rW:FnScope ["machine","strip"] ["machine","strip"] (aL (top 9)):=by constructor<;>first|rfl|decide +kernel
theorem aA1(T:Txt w K mg)(D:DefAt K mg "checked" (top 9) ["machine","strip"])(c_checked_by:bB P w K mg base TH 3 "checked_by" ["signs","strip"] gO)(c_signs_of:bB P w K mg base TH 1 "signs_of" ["machine"] i8):bB P w K mg base TH 4 "checked" ["machine","strip"] gP:=
 @dG P w K mg base TH "checked" (top 9) ["machine","strip"] ["machine","strip"] 3 o4 D rW (fun f cdv A outer s H F E hr=>by
  have nd:=rW.nd
  exact (Fl.aR (Fl.bM (cM rfl rfl rfl (cK c_checked_by (hr.mono (by decide)) rfl (cG fun _ _ _ h=>h) (aG (cM rfl rfl rfl (cK c_signs_of (hr.mono (by decide)) rfl (cG fun _ _ _ h=>h) (aG (aU (pv 0)) bQ))) (aG (aU (pv 1)) bQ)))))))
end
end Mc
namespace Mc
open PySem L2 PyProof.Rows Fl
section
variable{P:Program}{w:World}{K:Frag}{mg:Str->Option Value}{base:Heap}{TH:Hp}
theorem rX:FnScope ["machine","strip","stand","place","row"] ["machine","strip","stand"] (aL (top 16)):=by constructor<;>first|rfl|decide +kernel
theorem aA2(T:Txt w K mg)(D:DefAt K mg "cell_at" (top 16) ["machine","strip","stand"]):bB P w K mg base TH 1 "cell_at" ["machine","strip","stand"] fY:=
 @dG P w K mg base TH "cell_at" (top 16) ["machine","strip","stand","place","row"] ["machine","strip","stand"] 0 o5 D rX (fun f cdv A outer s H F E hr=>by
  have nd:=rX.nd
  exact (Fl.aE (Fl.aJ (L2.aJ (i:=3) nd rfl (Or.inl rfl) (aT (a9 (bA rfl) aQ (aC (pv 2)) (aA aD)))))
   (Fl.aE (Fl.aJ (L2.aJ (i:=4) nd rfl (Or.inl rfl) (aT (a9 (bA rfl) aQ (aC (pv 0)) (aA (a9 (bA rfl) aQ (aC (pv 2)) (aA aD)))))))
   (Fl.aE (Fl.dH (Fl.cO (dP rfl hr.units) cP (aC (pv 3)) (aA aD) (bZ _)) (Fl.aR (Fl.bM (aT (dW (aM (a9 (bA rfl) aQ (aC (pv 4)) (aA aD)) (aM aD bO)))))) Fl.cJ)
   (Fl.aE (Fl.dH (Fl.cO (dP rfl hr.units) cP (aC (pv 3)) (aA (aF (bS rfl) bD (aA (c7 rfl (bR b9 rfl T.b_len PySem.boot_len (aP (aC (pv 1)) aX)))) (aA aD))) (bZ _)) (Fl.aR (Fl.bM (aT (dW (aM (a9 (bA rfl) aQ (aC (pv 4)) (aA aD)) (aM (vM pP lS (aA aD)) bO)))))) Fl.cJ)
   (Fl.aR (Fl.bM (aT (a9 (bA rfl) aQ (aA (a9 (bA rfl) aQ (aC (pv 4)) (aA aD))) (aA (w8 (iV PySem.F.plainAttrs_str PySem.F.slot_str_index PySem.F.type_str_index wM (aA (gM (jF (v:=.str "abc") rfl T.g_SIGNS.choose_spec ⟨_,rfl⟩) fun _=>.str _)) (aP (aA (a9 (bA rfl) aQ (aC (pv 1)) (aA (aF dO cV (aC (pv 3)) (aA aD))))) aX)) (by intro ρ x h;cases h;exact ⟨_,rfl⟩))))))))))))
theorem zF:FnScope ["machine","strip","stand","stands","been","cell"] ["machine","strip"] (aL (top 17)):=by constructor<;>first|rfl|decide +kernel
theorem aHT(T:Txt w K mg)(D:DefAt K mg "path" (top 17) ["machine","strip"])(c_checked:bB P w K mg base TH 4 "checked" ["machine","strip"] gP)(c_cell_at:bB P w K mg base TH 1 "cell_at" ["machine","strip","stand"] fY):bB P w K mg base TH 5 "path" ["machine","strip"] lB:=
 @dG P w K mg base TH "path" (top 17) ["machine","strip","stand","stands","been","cell"] ["machine","strip"] 4 xI D zF (fun f cdv A outer s H F E hr=>by
  have nd:=zF.nd
  exact (Fl.aE (Fl.eO (L2.eO (cM rfl rfl rfl (cK c_checked (hr.mono (by decide)) rfl (cG fun _ _ _ h=>h) (aG (aU (pv 0)) (aG (aU (pv 1)) bQ))))))
   (Fl.aE (Fl.aJ (L2.aJ (i:=2) nd rfl (Or.inl rfl) (aT (gM (jF (v:=.ref T.g_BEGIN.choose) rfl T.g_BEGIN.choose_spec.1 rfl) fun F=>xA T.g_BEGIN.choose_spec.2 (by exact fun F=>.cons (.int _) (.cons (.int _) (.nil))) F))))
   (Fl.aE (jN (L2.aJ (i:=3) nd rfl (Or.inl rfl) (gB (aM (cY (pv 2)) bO))))
   (Fl.aE (aHD rfl (L2.aJ (i:=4) nd rfl (Or.inl rfl) aHC))
   (Fl.aE (Fl.kS (L2.kS (gY ⟨rfl,rfl⟩) (aJL rfl rfl (yJ (aEO hr.units) (cY (pv 2)) (pv 4) (by with_unfolding_all rfl)))
   (Fl.aE (Fl.aHE rfl rfl (mB nE (aII (pv 4) (cY (pv 2)) (aEQ hr.units))))
   (Fl.aE (Fl.aJ (L2.aJ (i:=5) nd rfl (Or.inl rfl) (cM rfl rfl rfl (cK c_cell_at (hr.mono (by decide)) rfl (cG fun _ _ _ h=>h) (aG (aU (pv 0)) (aG (aU (pv 1)) (aG (aU (pv 2)) bQ)))))))
   (Fl.aE (Fl.dH (Fl.cO (aJF rfl hr.units) aEE (aA (a9 (bA rfl) aQ (aC (pv 5)) (aA aD))) (aA (gM (jF (v:=.ref T.g_STOPS.choose) rfl T.g_STOPS.choose_spec.1 rfl) fun F=>xA T.g_STOPS.choose_spec.2 (by exact fun F=>.cons (.str _) (.cons (.str _) (.nil))) F)) (by with_unfolding_all rfl)) (Fl.aR (vN 3 (Fl.bM (aU (pv 3))))) Fl.cJ)
   (Fl.aE (Fl.aJ (L2.aJ (i:=2) nd rfl (Or.inl rfl) (aT (dW (aM (aF (bS rfl) bD (aA (a9 (bA rfl) aQ (aC (pv 2)) (aA aD))) (aA (a9 (bA rfl) aQ (aC (pv 5)) (aA aD)))) (aM (a9 (bA rfl) aQ (aC (pv 5)) (aA aD)) bO))))))
   (Fl.aR (mL rfl (L2.eO (iV PySem.F.plainAttrs_list PySem.F.slot_list_append PySem.F.type_list_append gL (pv 3) (aP (cY (pv 2)) aX)))))))))))
   (Fl.aR (vN 3 (Fl.bM (aU (pv 3)))))))))))
theorem n6:FnScope ["stands","strip","crossings","here","there"] ["stands","strip"] (aL (top 18)):=by constructor<;>first|rfl|decide +kernel
theorem uR(T:Txt w K mg)(D:DefAt K mg "borders_of" (top 18) ["stands","strip"]):bB P w K mg base TH 1 "borders_of" ["stands","strip"] fV:=
 @dG P w K mg base TH "borders_of" (top 18) ["stands","strip","crossings","here","there"] ["stands","strip"] 0 lJ D n6 (fun f cdv A outer s H F E hr=>by
  have nd:=n6.nd
  exact (aE4 (is:=[3,4]) (L2.m4 (i:=2) nd rfl (Or.inl rfl) (by rfl) (N:=["border"]) (js:=[none]) rfl (.own .nil) (by rfl) (aAO (jP (gJ rfl T.b_range (aP (aA (aF (bS rfl) bD (aA (c7 rfl (bR b9 rfl T.b_len PySem.boot_len (aP (aC (pv 1)) aX)))) (aA aD))) aX))))) rfl (fun cl C s0 H0 fp=>⟨cE (i:=0) (show (["border"]:List Str).Nodup by decide +kernel) rfl (Or.inl rfl),aBJ aX⟩) (kY rfl (dL (cF 3) (dL (cF 4) jO)) rfl) (by decide)
   (L2.eY (gY ⟨rfl,rfl⟩) rfl (aHJ rfl (L2.aJT rfl T.b_zip (aP (cY (pv 0)) (aP (nI rfl (aC (pv 0)) (vR (aA aD)) vQ) aX)))) (kR rfl (dJ (cE (i:=3) nd rfl (Or.inl rfl)) (dJ (cE (i:=4) nd rfl (Or.inl rfl)) jG))) (L2.aR (L2.eO (iV PySem.F.plainAttrs_list PySem.F.slot_list_append PySem.F.type_list_append gL (aFM aI0 (pv 2) (aA (aJQ (G:=kB) (bR (aBG rfl) rfl T.b_min PyProof.Rows.boot_min (aP (aA (a9 (bA rfl) aQ (aC (pv 3)) (aA aD))) (aP (aA (a9 (bA rfl) aQ (aC (pv 4)) (aA aD))) aX))))) (fun _ _=>rfl)) (aP (a9 (bA rfl) aQ (aC (pv 4)) (aA aD)) aX)))))
   (Fl.aR (Fl.bM (aT (kW rfl (gK gA rfl T.b_tuple PyProof.Rows.boot_tuple (aP (aA (iY (tE (sO (N:=["rooms"]) (js:=[none]) rfl (.own .nil) (by rfl) (aEG rfl (aC (pv 2)))) (by decide) (by decide) (is:=[0]) (fun cl C s0 H0 fp=>⟨_,(cE (i:=0) (show (["rooms"]:List Str).Nodup by decide +kernel) rfl (Or.inl rfl)),(cF 0),Fl.jI,(kW rfl (gK gA rfl T.b_tuple PyProof.Rows.boot_tuple (aP (aC (pv 0)) aX)))⟩)))) aX))))))))
theorem zG:FnScope ["machine","strip","stands","last","word"] ["machine","strip"] (aL (top 19)):=by constructor<;>first|rfl|decide +kernel
theorem aHU(T:Txt w K mg)(D:DefAt K mg "walk" (top 19) ["machine","strip"])(c_path:bB P w K mg base TH 5 "path" ["machine","strip"] lB)(c_cell_at:bB P w K mg base TH 1 "cell_at" ["machine","strip","stand"] fY)(c_borders_of:bB P w K mg base TH 1 "borders_of" ["stands","strip"] fV){Co_LetBy:Addr}(mk_LetBy:MkAt P w K mg base 2 "LetBy" ["place","room","borders"] Co_LetBy){Co_ShutOut:Addr}(mk_ShutOut:MkAt P w K mg base 2 "ShutOut" ["place","room","borders"] Co_ShutOut){Co_ForEver:Addr}(mk_ForEver:MkAt P w K mg base 2 "ForEver" ["place","room","first","again"] Co_ForEver):bB P w K mg base TH 6 "walk" ["machine","strip"] pE:=
 @dG P w K mg base TH "walk" (top 19) ["machine","strip","stands","last","word"] ["machine","strip"] 5 xV D zG (fun f cdv A outer s H F E hr=>by
  have nd:=zG.nd
  exact (Fl.aE (Fl.aJ (L2.aJ (i:=2) nd rfl (Or.inl rfl) (cM rfl rfl rfl (cK c_path (hr.mono (by decide)) rfl (cG fun _ _ _ h=>h) (aG (aU (pv 0)) (aG (aU (pv 1)) bQ))))))
   (Fl.aE (Fl.aJ (L2.aJ (i:=3) nd rfl (Or.inl rfl) (aT (a9 (bA rfl) aQ (aC (pv 2)) (aA (vM pP lS (aA aD)))))))
   (Fl.aE (Fl.aJ (L2.aJ (i:=4) nd rfl (Or.inl rfl) (aT (a9 (bA rfl) aQ (aA (dI (cM rfl rfl rfl (cK c_cell_at (hr.mono (by decide)) rfl (cG fun _ _ _ h=>h) (aG (aU (pv 0)) (aG (aU (pv 1)) (aG (aU (pv 3)) bQ))))))) (aA aD)))))
   (Fl.aE (Fl.dH (Fl.cO (dP rfl hr.units) cP (aC (pv 4)) (aA eI) (bZ _)) (Fl.aR (Fl.bM (xS rfl mk_LetBy (hr.mono (by decide)) rfl (aM (a9 (bA rfl) aQ (aC (pv 3)) (aA aD)) (aM (a9 (bA rfl) aQ (aC (pv 3)) (aA aD)) (aM (dI (cM rfl rfl rfl (cK c_borders_of (hr.mono (by decide)) rfl (cG fun _ _ _ h=>h) (aG (aU (pv 2)) (aG (aU (pv 1)) bQ))))) bO)))))) Fl.cJ)
   (Fl.aE (Fl.dH (Fl.cO (dP rfl hr.units) cP (aC (pv 4)) (aA eI) (bZ _)) (Fl.aR (Fl.bM (xS rfl mk_ShutOut (hr.mono (by decide)) rfl (aM (a9 (bA rfl) aQ (aC (pv 3)) (aA aD)) (aM (a9 (bA rfl) aQ (aC (pv 3)) (aA aD)) (aM (dI (cM rfl rfl rfl (cK c_borders_of (hr.mono (by decide)) rfl (cG fun _ _ _ h=>h) (aG (aU (pv 2)) (aG (aU (pv 1)) bQ))))) bO)))))) Fl.cJ)
   (Fl.aR (Fl.bM (xS rfl mk_ForEver (hr.mono (by decide)) rfl (aM (a9 (bA rfl) aQ (aC (pv 3)) (aA aD)) (aM (a9 (bA rfl) aQ (aC (pv 3)) (aA aD)) (aM (aCV rfl (iV PySem.F.plainAttrs_list PySem.F.slot_list_index PySem.F.type_list_index (aCU hr.units) (aC (pv 2)) (aP (aC (pv 3)) aX))) (aM (aF dO cV (aA (c7 rfl (bR b9 rfl T.b_len PySem.boot_len (aP (aC (pv 2)) aX)))) (aA aD)) bO)))))))))))))
theorem qI:FnScope ["stands","ending","number"] ["stands","ending","number"] (aL (top 21)):=by constructor<;>first|rfl|decide +kernel
theorem yF(T:Txt w K mg)(D:DefAt K mg "stand_at" (top 21) ["stands","ending","number"])(fo_first:f9 K mg ["ForEver"] "first")(fo_again:f9 K mg ["ForEver"] "again"):bB P w K mg base TH 1 "stand_at" ["stands","ending","number"] g9:=
 @dG P w K mg base TH "stand_at" (top 21) ["stands","ending","number"] ["stands","ending","number"] 0 nS D qI (fun f cdv A outer s H F E hr=>by
  have nd:=qI.nd
  exact (Fl.aE (Fl.dH (Fl.cO j6 gN (aC (pv 2)) (aA (c7 rfl (bR b9 rfl T.b_len PySem.boot_len (aP (aC (pv 0)) aX)))) (bZ _)) (Fl.aR (Fl.bM (aT (a9 (bA rfl) aQ (aC (pv 0)) (aC (pv 2)))))) Fl.cJ)
   (Fl.aR (Fl.bM (aT (a9 (bA rfl) aQ (aC (pv 0)) (aA (aF (bS rfl) bD (aA (iE rfl rfl fo_first (iB (pv 1) rfl))) (aA (aF bJ aZ (aA (aF dO cV (aC (pv 2)) (aA (iE rfl rfl fo_first (iB (pv 1) rfl))))) (aA (aF dO cV (aA (iE rfl rfl fo_again (iB (pv 1) rfl))) (aA (iE rfl rfl fo_first (iB (pv 1) rfl)))))))))))))))
end
end Mc
namespace Mc
open PySem L2 PyProof.Rows Fl
section
variable{P:Program}{w:World}{K:Frag}{mg:Str->Option Value}{base:Heap}{TH:Hp}
theorem n8:FnScope ["machine","strip","ending","paper","first","again","stands","stand"] ["machine","strip","ending","paper"] (aL (top 22)):=by constructor<;>first|rfl|decide +kernel
theorem uS(T:Txt w K mg)(D:DefAt K mg "goes_round" (top 22) ["machine","strip","ending","paper"])(c_path:bB P w K mg base TH 5 "path" ["machine","strip"] lB)(c_stand_at:bB P w K mg base TH 1 "stand_at" ["stands","ending","number"] g9):bB P w K mg base TH 6 "goes_round" ["machine","strip","ending","paper"] gT:=
 @dG P w K mg base TH "goes_round" (top 22) ["machine","strip","ending","paper","first","again","stands","stand"] ["machine","strip","ending","paper"] 5 lK D n8 (fun f cdv A outer s H F E hr=>by
  have nd:=n8.nd
  exact (Fl.aE (Fl.aJ (L2.aJ (i:=4) nd rfl (Or.inl rfl) (aT (a9 (bA rfl) aQ (aC (pv 3)) (aA aD)))))
   (Fl.aE (Fl.aJ (L2.aJ (i:=5) nd rfl (Or.inl rfl) (aT (a9 (bA rfl) aQ (aC (pv 3)) (aA aD)))))
   (Fl.aE (Fl.dH (Fl.q0 (Fl.pD mH jL j6 gN mH jL (aA aD) (aC (pv 4)) (aC (pv 5)) (aA (aF fO eF (aA (c7 rfl (bR b9 rfl T.b_len PySem.boot_len (aP (aC (pv 0)) aX)))) (aA (aF (bS rfl) bD (aA (c7 rfl (bR b9 rfl T.b_len PySem.boot_len (aP (aC (pv 1)) aX)))) (aA aD))))))) (Fl.aR (Fl.bM (aT nE))) Fl.cJ)
   (Fl.aE (Fl.aJ (L2.aJ (i:=6) nd rfl (Or.inl rfl) (cM rfl rfl rfl (cK c_path (hr.mono (by decide)) rfl (cG fun _ _ _ h=>h) (aG (aU (pv 0)) (aG (aU (pv 1)) bQ))))))
   (Fl.aE (Fl.aJ (L2.aJ (i:=7) nd rfl (Or.inl rfl) (aT (dW (aM (a9 (bA rfl) aQ (aC (pv 3)) (aA aD)) (aM (a9 (bA rfl) aQ (aC (pv 3)) (aA aD)) bO))))))
   (Fl.aR (Fl.bM (aT (mK (iD (dP rfl hr.units) cP (aA (dI (cM rfl rfl rfl (cK c_stand_at (hr.mono (by decide)) rfl (cG fun _ _ _ h=>h) (aG (aU (pv 6)) (aG (mU (pv 2)) (aG (aU (pv 4)) bQ))))))) (aC (pv 7)) (bZ _)) (oS (iD (dP rfl hr.units) cP (aA (dI (cM rfl rfl rfl (cK c_stand_at (hr.mono (by decide)) rfl (cG fun _ _ _ h=>h) (aG (aU (pv 6)) (aG (mU (pv 2)) (aG (aU (pv 5)) bQ))))))) (aC (pv 7)) (bZ _)))))))))))))
theorem xW:FnScope ["machine","strip","paper","ending"] ["machine","strip","paper"] (aL (top 23)):=by constructor<;>first|rfl|decide +kernel
theorem aE5(T:Txt w K mg)(D:DefAt K mg "holds" (top 23) ["machine","strip","paper"])(c_walk:bB P w K mg base TH 6 "walk" ["machine","strip"] pE)(c_goes_round:bB P w K mg base TH 6 "goes_round" ["machine","strip","ending","paper"] gT)(mt_stops:∀ p∈[(("LetBy":Str),gC),(("ShutOut":Str),fB),(("ForEver":Str),fD)],tM P w K mg base TH 1 p.1 "stops" p.2)(mt_paper:∀ p∈[(("LetBy":Str),gD),(("ShutOut":Str),fC),(("ForEver":Str),fF)],tM P w K mg base TH 1 p.1 "paper" p.2):bB P w K mg base TH 7 "holds" ["machine","strip","paper"] hJ:=
 @dG P w K mg base TH "holds" (top 23) ["machine","strip","paper","ending"] ["machine","strip","paper"] 6 pU D xW (fun f cdv A outer s H F E hr=>by
  have nd:=xW.nd
  exact (Fl.aE (Fl.aJ (L2.aJ (i:=3) nd rfl (Or.inl rfl) (cM rfl rfl rfl (cK c_walk (hr.mono (by decide)) rfl (cG fun _ _ _ h=>h) (aG (aU (pv 0)) (aG (aU (pv 1)) bQ))))))
   (Fl.aE (Fl.dH (Fl.l9 (dI (aF0 rfl rfl rfl mt_stops (hr.mono (by decide)) (cG fun _ _ _ h=>h) (mU (pv 3))))) (Fl.aR (Fl.bM (aT (iD (dP rfl hr.units) cP (aC (pv 2)) (aA (dI (aF0 rfl rfl rfl mt_paper (hr.mono (by decide)) (cG fun _ _ _ h=>h) (mU (pv 3))))) (bZ _))))) Fl.cJ)
   (Fl.aR (Fl.bM (aT (mK (iD (dP rfl hr.units) cP (aA (a9 (bA rfl) aQ (aC (pv 2)) (aA aD))) (aA eI) (bZ _)) (oS (dI (cM rfl rfl rfl (cK c_goes_round (hr.mono (by decide)) rfl (cG fun _ _ _ h=>h) (aG (aU (pv 0)) (aG (aU (pv 1)) (aG (mU (pv 3)) (aG (aU (pv 2)) bQ)))))))))))))))
theorem n9:FnScope ["_law_found","_law_due"] ["_law_found","_law_due"] (aL (top 25)):=by constructor<;>first|rfl|decide +kernel
theorem uT(T:Txt w K mg)(D:DefAt K mg "_law_truth" (top 25) ["_law_found","_law_due"]):bB P w K mg base TH 1 "_law_truth" ["_law_found","_law_due"] fU:=
 @dG P w K mg base TH "_law_truth" (top 25) ["_law_found","_law_due"] ["_law_found","_law_due"] 0 lG D n9 (fun f cdv A outer s H F E hr=>by
  have nd:=n9.nd
  exact (Fl.aR (Fl.bM (aT (mK (w5 (bR (qP rfl (aEJ _)) rfl T.b_isinstance PyProof.Rows.boot_isinstance (aP (aC (pv 0)) (aP (sK (v:=.ty "bool") rfl T.b_bool PyProof.Rows.boot_bool rfl) aX)))) (oS (iD (dP rfl hr.units) cP (aC (pv 0)) (aC (pv 1)) (bZ _))))))))
theorem pF:FnScope ["_law_script","_law_k","_law_cell_here","_law_mixed"] ["_law_script","_law_k"] (aL (top 26)):=by constructor<;>first|rfl|decide +kernel
theorem xX(T:Txt w K mg)(D:DefAt K mg "_law_cell" (top 26) ["_law_script","_law_k"]):bB P w K mg base TH 1 "_law_cell" ["_law_script","_law_k"] bC:=
 @dG P w K mg base TH "_law_cell" (top 26) ["_law_script","_law_k","_law_cell_here","_law_mixed"] ["_law_script","_law_k"] 0 j0 D pF (fun f cdv A outer s H F E hr=>by
  have nd:=pF.nd
  exact (Fl.aE (Fl.aJ (L2.aJ (i:=2) nd rfl (Or.inl rfl) (aT aD)))
   (Fl.aE (Fl.dH (Fl.cO mI jM (aA (c7 rfl (bR b9 rfl T.b_len PySem.boot_len (aP (aC (pv 0)) aX)))) (aA aD) (bZ _)) (Fl.aR (Fl.aJ (L2.aJ (i:=2) nd rfl (Or.inl rfl) (aT (a9 (bA rfl) aQ (aC (pv 0)) (aA (aF bJ aZ (aC (pv 1)) (aA (c7 rfl (bR b9 rfl T.b_len PySem.boot_len (aP (aC (pv 0)) aX))))))))))) Fl.cJ)
   (Fl.aE (Fl.aJ (L2.aJ (i:=3) nd rfl (Or.inl rfl) (aT (aF bJ aZ (aA (aF fO eF (aA (aF (bS rfl) bD (aA (aF (bS rfl) bD (aA (aF bJ aZ (aC (pv 2)) (aA aD))) (aA (aF fO eF (aA aD) (aC (pv 1)))))) (aA aD))) (aA aD))) (aA aD)))))
   (Fl.aR (Fl.bM (aT (aF (bS rfl) bD (aA (aF fO eF (aA (aF cL bV (aC (pv 2)) (aA aD))) (aA aD))) (aA (aF bJ aZ (aA (aF (bS rfl) bD (aA (aF fO eF (aC (pv 3)) (aA aD))) (aA (aF fO eF (aA aD) (aC (pv 1)))))) (aA aD)))))))))))
theorem qJ:FnScope ["_law_number","_law_rooms"] ["_law_number","_law_rooms"] (aL (top 27)):=by constructor<;>first|rfl|decide +kernel
theorem yG(T:Txt w K mg)(D:DefAt K mg "_law_end" (top 27) ["_law_number","_law_rooms"]):bB P w K mg base TH 1 "_law_end" ["_law_number","_law_rooms"] fA:=
 @dG P w K mg base TH "_law_end" (top 27) ["_law_number","_law_rooms"] ["_law_number","_law_rooms"] 0 kM D qJ (fun f cdv A outer s H F E hr=>by
  have nd:=qJ.nd
  exact (Fl.aE (Fl.dH (Fl.cO (dP rfl hr.units) cP (aA (aF bJ aZ (aC (pv 0)) (aA aD))) (aA aD) (bZ _)) (Fl.aR (Fl.bM (aT (a9 (bA rfl) aQ (aA (iY (gB (aM eI (aM eI bO))))) (aA (aF bJ aZ (aA (aF cL bV (aC (pv 0)) (aA aD))) (aA aD))))))) Fl.cJ)
   (Fl.aR (Fl.bM (aT (aF bJ aZ (aA (aF cL bV (aC (pv 0)) (aA aD))) (aC (pv 1))))))))
end
end Mc
namespace Mc
open PySem L2 PyProof.Rows Fl
section
variable{P:Program}{w:World}{K:Frag}{mg:Str->Option Value}{base:Heap}{TH:Hp}
theorem kD:FnScope ["_law_number","_law_rooms","_law_signs","_law_left","_law_cells","_law_k","_law_ends"] ["_law_number","_law_rooms","_law_signs"] (aL (top 28)):=by constructor<;>first|rfl|decide +kernel
theorem p7(T:Txt w K mg)(D:DefAt K mg "_law_digit_row" (top 28) ["_law_number","_law_rooms","_law_signs"]):bB P w K mg base TH 1 "_law_digit_row" ["_law_number","_law_rooms","_law_signs"] dY:=
 @dG P w K mg base TH "_law_digit_row" (top 28) ["_law_number","_law_rooms","_law_signs","_law_left","_law_cells","_law_k","_law_ends"] ["_law_number","_law_rooms","_law_signs"] 0 iO D kD (fun f cdv A outer s H F E hr=>by
  have nd:=kD.nd
  exact (Fl.aE (Fl.aJ (L2.aJ (i:=3) nd rfl (Or.inl rfl) (aT (aF bJ aZ (aC (pv 0)) (aA (aF (bS rfl) bD (aC (pv 1)) (aA aD)))))))
   (Fl.aE (Fl.aJ (L2.aJ (i:=0) nd rfl (Or.inl rfl) (aT (aF cL bV (aC (pv 0)) (aA (aF (bS rfl) bD (aC (pv 1)) (aA aD)))))))
   (Fl.aE (jN (L2.aJ (i:=4) nd rfl (Or.inl rfl) (gB bO)))
   (Fl.aE (Fl.eY (cF 5) (L2.eY (gY ⟨rfl,rfl⟩) rfl (jP (gJ rfl T.b_range (aP (aC (pv 2)) aX))) (cE (i:=5) nd rfl (Or.inl rfl))
   (Fl.aE (mL rfl (L2.eO (iV PySem.F.plainAttrs_list PySem.F.slot_list_append PySem.F.type_list_append gL (pv 4) (aP (dW (aM (aF bJ aZ (aA (aF cL bV (aC (pv 0)) (aA aD))) (aC (pv 1))) (aM (aF dO cV (aA aD) (aA (aF fO eF (aA (aF bJ aZ (aC (pv 0)) (aA aD))) (aA aD)))) bO))) aX))))
   (Fl.aR (Fl.aJ (L2.aJ (i:=0) nd rfl (Or.inl rfl) (aT (aF cL bV (aC (pv 0)) (aA (aF fO eF (aA aD) (aC (pv 1))))))))))))
   (Fl.aE (jN (L2.aJ (i:=6) nd rfl (Or.inl rfl) (gB (aM (cY (pv 3)) (aM (aF bJ aZ (aC (pv 0)) (aA (aF (bS rfl) bD (aC (pv 1)) (aA aD)))) bO)))))
   (Fl.aE (yX (L2.m4 (i:=6) nd rfl (Or.inl rfl) (by rfl) (N:=["_law_end_here","_law_rooms"]) (js:=[none,some 1]) rfl (.own (.cap rfl (.inl rfl) (.inl rfl) .nil)) (by rfl) (aEG rfl (aC (pv 6)))) (by decide) (by decide) (is:=[0]) (fun cl C s0 H0 fp=>⟨_,(cE (i:=0) (show (["_law_end_here","_law_rooms"]:List Str).Nodup by decide +kernel) rfl (Or.inl rfl)),(cF 0),Fl.jI,(aLA (Fl.cO aJD aEC (aC (pv 0)) (aC (pv 1)) (bZ _)) (a9 (bA rfl) aQ (aA (iY (gB (aM eI (aM eI bO))))) (aA (aF dO cV (aC (pv 0)) (aC (pv 1))))) (cY (pv 0)))⟩))
   (Fl.aR (Fl.bM (aT (dW (aM (a9 (bA rfl) aQ (aC (pv 6)) (aA aD)) (aM (kW rfl (gK gA rfl T.b_tuple PyProof.Rows.boot_tuple (aP (aC (pv 4)) aX))) (aM (a9 (bA rfl) aQ (aC (pv 6)) (aA aD)) bO))))))))))))))
theorem kE:FnScope ["_law_number","_law_rooms","_law_signs","_law_pieces","_law_k","_law_cells"] ["_law_number","_law_rooms","_law_signs"] (aL (top 29)):=by constructor<;>first|rfl|decide +kernel
theorem p8(T:Txt w K mg)(D:DefAt K mg "_law_mixed_row" (top 29) ["_law_number","_law_rooms","_law_signs"])(c__law_end:bB P w K mg base TH 1 "_law_end" ["_law_number","_law_rooms"] fA):bB P w K mg base TH 2 "_law_mixed_row" ["_law_number","_law_rooms","_law_signs"] dM:=
 @dG P w K mg base TH "_law_mixed_row" (top 29) ["_law_number","_law_rooms","_law_signs","_law_pieces","_law_k","_law_cells"] ["_law_number","_law_rooms","_law_signs"] 1 iP D kE (fun f cdv A outer s H F E hr=>by
  have nd:=kE.nd
  exact (Fl.aE (jN (L2.aJ (i:=3) nd rfl (Or.inl rfl) (gB bO)))
   (Fl.aE (Fl.eY (cF 4) (L2.eY (gY ⟨rfl,rfl⟩) rfl (jP (gJ rfl T.b_range (aP (aA (aF (bS rfl) bD (aC (pv 2)) (aA aD))) aX))) (cE (i:=4) nd rfl (Or.inl rfl))
   (Fl.aE (Fl.aJ (L2.aJ (i:=0) nd rfl (Or.inl rfl) (aT (aF bJ aZ (aA (aF (bS rfl) bD (aA (aF fO eF (aC (pv 0)) (aA aD))) (aA aD))) (aA aD)))))
   (Fl.aR (mL rfl (L2.eO (iV PySem.F.plainAttrs_list PySem.F.slot_list_append PySem.F.type_list_append gL (pv 3) (aP (aF cL bV (aC (pv 0)) (aA aD)) aX))))))))
   (Fl.aE (Fl.aJ (L2.aJ (i:=5) nd rfl (Or.inl rfl) (aT (kW rfl (gK gA rfl T.b_tuple PyProof.Rows.boot_tuple (aP (aA (iY (tE (sO (N:=["_law_piece","_law_rooms"]) (js:=[none,some 1]) rfl (.own (.cap rfl (.inl rfl) (.inl rfl) .nil)) (by rfl) (aEG rfl (aA (nI rfl (aC (pv 3)) (vR (aA aD)) vQ)))) (by decide) (by decide) (is:=[0]) (fun cl C s0 H0 fp=>⟨_,(cE (i:=0) (show (["_law_piece","_law_rooms"]:List Str).Nodup by decide +kernel) rfl (Or.inl rfl)),(cF 0),Fl.jI,(dW (aM (aF bJ aZ (aC (pv 0)) (aC (pv 1))) (aM (aF dO cV (aA aD) (aA (aF fO eF (aA (aF cL bV (aA (aF bJ aZ (aA (aF cL bV (aC (pv 0)) (aA aD))) (aA aD))) (aA aD))) (aA aD)))) bO)))⟩)))) aX))))))
   (Fl.aR (Fl.bM (aT (dW (aM (dI (cM rfl rfl rfl (cK c__law_end (hr.mono (by decide)) rfl (cG fun _ _ _ h=>h) (aG (aT (a9 (bA rfl) aQ (aC (pv 3)) (aA aD))) (aG (aU (pv 1)) bQ))))) (aM (cY (pv 5)) (aM (dI (cM rfl rfl rfl (cK c__law_end (hr.mono (by decide)) rfl (cG fun _ _ _ h=>h) (aG (aT (a9 (bA rfl) aQ (aC (pv 3)) (aA aD))) (aG (aU (pv 1)) bQ))))) bO)))))))))))
theorem lY:FnScope ["_law_script","_law_at","_law_rooms","_law_signs","_law_rows","_law_room","_law_row"] ["_law_script","_law_at","_law_rooms","_law_signs"] (aL (top 30)):=by constructor<;>first|rfl|decide +kernel
theorem rY(T:Txt w K mg)(D:DefAt K mg "_law_machine" (top 30) ["_law_script","_law_at","_law_rooms","_law_signs"])(c__law_digit_row:bB P w K mg base TH 1 "_law_digit_row" ["_law_number","_law_rooms","_law_signs"] dY)(c__law_mixed_row:bB P w K mg base TH 2 "_law_mixed_row" ["_law_number","_law_rooms","_law_signs"] dM)(c__law_cell:bB P w K mg base TH 1 "_law_cell" ["_law_script","_law_k"] bC):bB P w K mg base TH 3 "_law_machine" ["_law_script","_law_at","_law_rooms","_law_signs"] fR:=
 @dG P w K mg base TH "_law_machine" (top 30) ["_law_script","_law_at","_law_rooms","_law_signs","_law_rows","_law_room","_law_row"] ["_law_script","_law_at","_law_rooms","_law_signs"] 2 jU D lY (fun f cdv A outer s H F E hr=>by
  have nd:=lY.nd
  exact (Fl.aE (jN (L2.aJ (i:=4) nd rfl (Or.inl rfl) (gB bO)))
   (Fl.aE (Fl.eY (cF 5) (L2.eY (gY ⟨rfl,rfl⟩) rfl (jP (gJ rfl T.b_range (aP (aC (pv 2)) aX))) (cE (i:=5) nd rfl (Or.inl rfl))
   (Fl.aR (Fl.dH (PW.pt (Fl.kQ (Fl.cO j6 gN (aA (aF (bS rfl) bD (aC (pv 1)) (aC (pv 5)))) (aA (c7 rfl (bR b9 rfl T.b_len PySem.boot_len (aP (aC (pv 0)) aX)))) (bZ _)) (Fl.kN (Fl.cO (dP rfl hr.units) cP (aA (aF bJ aZ (aA (a9 (bA rfl) aQ (aC (pv 0)) (aA aD))) (aA aD))) (aA aD) (bZ _))))) (Fl.aR (mL rfl (L2.eO (iV PySem.F.plainAttrs_list PySem.F.slot_list_append PySem.F.type_list_append gL (pv 4) (aP (dI (cM rfl rfl rfl (cK c__law_digit_row (hr.mono (by decide)) rfl (cG fun _ _ _ h=>h) (aG (aT (a9 (bA rfl) aQ (aC (pv 0)) (aA (aF (bS rfl) bD (aC (pv 1)) (aC (pv 5)))))) (aG (aU (pv 2)) (aG (aU (pv 3)) bQ)))))) aX))))) (Fl.aE (Fl.aJ (L2.aJ (i:=6) nd rfl (Or.inl rfl) (cM rfl rfl rfl (cK c__law_mixed_row (hr.mono (by decide)) rfl (cG fun _ _ _ h=>h) (aG (aT (aF bJ aZ (aA (dI (cM rfl rfl rfl (cK c__law_cell (hr.mono (by decide)) rfl (cG fun _ _ _ h=>h) (aG (aU (pv 0)) (aG (aT (aF (bS rfl) bD (aC (pv 1)) (aC (pv 5)))) bQ)))))) (aA aD))) (aG (aU (pv 2)) (aG (aU (pv 3)) bQ)))))))
   (Fl.aE (Fl.dH (PW.pt (Fl.kQ (Fl.cO (dP rfl hr.units) cP (aC (pv 5)) (aA aD) (bZ _)) (Fl.kQ (Fl.l9 (w5 (bR (qP rfl (yY _)) rfl T.b_isinstance PyProof.Rows.boot_isinstance (aP (aA (a9 (bA rfl) aQ (aC (pv 6)) (aA aD))) (aP (sK (v:=.ty "str") rfl T.b_str PyProof.Rows.boot_str rfl) aX))))) (Fl.kN (Fl.cO mI jM (aA (aF bJ aZ (aA (aF cL bV (aA (dI (cM rfl rfl rfl (cK c__law_cell (hr.mono (by decide)) rfl (cG fun _ _ _ h=>h) (aG (aU (pv 0)) (aG (aU (pv 1)) bQ)))))) (aA aD))) (aA aD))) (aA aD) (bZ _)))))) (Fl.aR (Fl.aJ (L2.aJ (i:=6) nd rfl (Or.inl rfl) (aT (aF (bS rfl) bD (aA (dW (aM (aF bJ aZ (aA (aF cL bV (aA (dI (cM rfl rfl rfl (cK c__law_cell (hr.mono (by decide)) rfl (cG fun _ _ _ h=>h) (aG (aU (pv 0)) (aG (aU (pv 1)) bQ)))))) (aA aD))) (aC (pv 2))) bO))) (aA (nI rfl (aC (pv 6)) (vR (aA aD)) vQ))))))) Fl.cJ)
   (Fl.aR (mL rfl (L2.eO (iV PySem.F.plainAttrs_list PySem.F.slot_list_append PySem.F.type_list_append gL (pv 4) (aP (cY (pv 6)) aX)))))))))))
   (Fl.aR (Fl.bM (aT (kW rfl (gK gA rfl T.b_tuple PyProof.Rows.boot_tuple (aP (aC (pv 4)) aX)))))))))
theorem oA:FnScope ["_law_script","_law_at","_law_size","_law_signs","_law_number","_law_strip_here","_law_k"] ["_law_script","_law_at","_law_size","_law_signs"] (aL (top 31)):=by constructor<;>first|rfl|decide +kernel
theorem uU(T:Txt w K mg)(D:DefAt K mg "_law_strip" (top 31) ["_law_script","_law_at","_law_size","_law_signs"])(c__law_cell:bB P w K mg base TH 1 "_law_cell" ["_law_script","_law_k"] bC):bB P w K mg base TH 2 "_law_strip" ["_law_script","_law_at","_law_size","_law_signs"] eR:=
 @dG P w K mg base TH "_law_strip" (top 31) ["_law_script","_law_at","_law_size","_law_signs","_law_number","_law_strip_here","_law_k"] ["_law_script","_law_at","_law_size","_law_signs"] 1 gS D oA (fun f cdv A outer s H F E hr=>by
  have nd:=oA.nd
  exact (Fl.aE (Fl.dH (PW.pt (Fl.kQ (Fl.cO j6 gN (aC (pv 1)) (aA (c7 rfl (bR b9 rfl T.b_len PySem.boot_len (aP (aC (pv 0)) aX)))) (bZ _)) (Fl.kN (Fl.cO (dP rfl hr.units) cP (aA (aF bJ aZ (aA (a9 (bA rfl) aQ (aC (pv 0)) (aA aD))) (aA aD))) (aA aD) (bZ _))))) (Fl.aE (Fl.aJ (L2.aJ (i:=4) nd rfl (Or.inl rfl) (aT (a9 (bA rfl) aQ (aC (pv 0)) (aC (pv 1))))))
   (Fl.aE (Fl.aJ (L2.aJ (i:=5) nd rfl (Or.inl rfl) (aT eI)))
   (Fl.aE (Fl.eY (cF 6) (L2.eY (gY ⟨rfl,rfl⟩) rfl (jP (gJ rfl T.b_range (aP (aC (pv 2)) aX))) (cE (i:=6) nd rfl (Or.inl rfl))
   (Fl.aE (Fl.aJ (L2.aJ (i:=5) nd rfl (Or.inl rfl) (aT (aF (bS rfl) bD (aC (pv 5)) (aA (a9 (bA rfl) aQ (aA eI) (aA (aF bJ aZ (aC (pv 4)) (aC (pv 3))))))))))
   (Fl.aR (Fl.aJ (L2.aJ (i:=4) nd rfl (Or.inl rfl) (aT (aF cL bV (aC (pv 4)) (aC (pv 3))))))))))
   (Fl.aR (Fl.bM (aU (pv 5))))))) Fl.cJ)
   (Fl.aR (Fl.bM (aT (aHB rfl (iV PySem.F.plainAttrs_str PySem.F.slot_str_join PySem.F.type_str_join aGU (aA eI) (aP (aA (iY (tE (sO (N:=["_law_k","_law_script","_law_at","_law_signs"]) (js:=[none,some 0,some 1,some 3]) rfl (.own (.cap rfl (.inl rfl) (.inl rfl) (.cap rfl (.inl rfl) (.inl rfl) (.cap rfl (.inl rfl) (.inl rfl) .nil)))) (by rfl) (aAO (jP (gJ rfl T.b_range (aP (aC (pv 2)) aX))))) (by decide) (by decide) (is:=[0]) (fun cl C s0 H0 fp=>⟨_,(cE (i:=0) (show (["_law_k","_law_script","_law_at","_law_signs"]:List Str).Nodup by decide +kernel) rfl (Or.inl rfl)),(cF 0),Fl.jI,(a9 (bA rfl) aQ (aA eI) (aA (aF bJ aZ (aA (dI (cM rfl rfl rfl (cK c__law_cell (hr.mono (by decide)) rfl aK6 (aG (aU (pv 1)) (aG (aT (aF (bS rfl) bD (aC (pv 2)) (aC (pv 0)))) bQ)))))) (aC (pv 3)))))⟩)))) aX)) (by intro ρ x h;cases h;exact ⟨_,rfl⟩)))))))
theorem pG:FnScope ["_law_machine_here","_law_strip_here","_law_stand","_law_place","_law_room","_law_left","_law_cells","_law_right","_law_there","_law_step_here"] ["_law_machine_here","_law_strip_here","_law_stand"] (aL (top 32)):=by constructor<;>first|rfl|decide +kernel
theorem xY(T:Txt w K mg)(D:DefAt K mg "_law_step" (top 32) ["_law_machine_here","_law_strip_here","_law_stand"]):bB P w K mg base TH 1 "_law_step" ["_law_machine_here","_law_strip_here","_law_stand"] eN:=
 @dG P w K mg base TH "_law_step" (top 32) ["_law_machine_here","_law_strip_here","_law_stand","_law_place","_law_room","_law_left","_law_cells","_law_right","_law_there","_law_step_here"] ["_law_machine_here","_law_strip_here","_law_stand"] 0 l7 D pG (fun f cdv A outer s H F E hr=>by
  have nd:=pG.nd
  exact (Fl.aE (oZ (kY rfl (dL (cF 3) (dL (cF 4) jO)) rfl) (mB (cY (pv 2)) (kR rfl (dJ (cE (i:=3) nd rfl (Or.inl rfl)) (dJ (cE (i:=4) nd rfl (Or.inl rfl)) jG)))))
   (Fl.aE (oZ (kY rfl (dL (cF 5) (dL (cF 6) (dL (cF 7) jO))) rfl) (mB (a9 (bA rfl) aQ (aC (pv 0)) (aC (pv 4))) (kR rfl (dJ (cE (i:=5) nd rfl (Or.inl rfl)) (dJ (cE (i:=6) nd rfl (Or.inl rfl)) (dJ (cE (i:=7) nd rfl (Or.inl rfl)) jG))))))
   (Fl.aE (Fl.dH (PW.pt (Fl.zN (Fl.cO (dP rfl hr.units) cP (aC (pv 3)) (aA aD) (bZ _)) (Fl.vZ (Fl.cO mI jM (aC (pv 3)) (aA (c7 rfl (bR b9 rfl T.b_len PySem.boot_len (aP (aC (pv 1)) aX)))) (bZ _))))) (Fl.aE (Fl.aJ (L2.aJ (i:=8) nd rfl (Or.inl rfl) (aT (a9 (bA rfl) aQ (aA (iY (gB (aM (cY (pv 5)) (aM (cY (pv 7)) bO))))) (aA (yV (gK tX rfl T.b_int PyProof.Rows.boot_int (aP (aA (iD mI jM (aC (pv 3)) (aA aD) (bZ _))) aX))))))))
   (Fl.aE (Fl.dH (Fl.l9 (w5 (bR (qP rfl (yY _)) rfl T.b_isinstance PyProof.Rows.boot_isinstance (aP (aC (pv 8)) (aP (sK (v:=.ty "str") rfl T.b_str PyProof.Rows.boot_str rfl) aX))))) (Fl.aR (Fl.bM (aT aB8))) Fl.cJ)
   (Fl.aR (Fl.bM (aT (dW (aM (a9 (bA rfl) aQ (aA (iY (gB (aM aD (aM (c7 rfl (bR b9 rfl T.b_len PySem.boot_len (aP (aC (pv 1)) aX))) bO))))) (aA (yV (gK tX rfl T.b_int PyProof.Rows.boot_int (aP (aA (iD mI jM (aC (pv 3)) (aA aD) (bZ _))) aX))))) (aM (cY (pv 8)) bO)))))))) Fl.cJ)
   (Fl.aE (oZ (kY rfl (dL (cF 8) (dL (cF 9) jO)) rfl) (mB (a9 (bA rfl) aQ (aC (pv 6)) (aA (w8 (iV PySem.F.plainAttrs_str PySem.F.slot_str_index PySem.F.type_str_index wM (aA eI) (aP (aA (a9 (bA rfl) aQ (aC (pv 1)) (aA (aF dO cV (aC (pv 3)) (aA aD))))) aX)) (by intro ρ x h;cases h;exact ⟨_,rfl⟩)))) (kR rfl (dJ (cE (i:=8) nd rfl (Or.inl rfl)) (dJ (cE (i:=9) nd rfl (Or.inl rfl)) jG)))))
   (Fl.aR (Fl.bM (aT (dW (aM (aF (bS rfl) bD (aC (pv 3)) (aC (pv 9))) (aM (cY (pv 8)) bO)))))))))))
end
end Mc
namespace Mc
open PySem L2 PyProof.Rows Fl
section
variable{P:Program}{w:World}{K:Frag}{mg:Str->Option Value}{base:Heap}{TH:Hp}
theorem oB:FnScope ["_law_script","_law_rooms","_law_signs","_law_size"] ["_law_script"] (aL (top 34)):=by constructor<;>first|rfl|decide +kernel
theorem uV(T:Txt w K mg)(D:DefAt K mg "_law_drawn" (top 34) ["_law_script"])(c__law_cell:bB P w K mg base TH 1 "_law_cell" ["_law_script","_law_k"] bC)(c__law_strip:bB P w K mg base TH 2 "_law_strip" ["_law_script","_law_at","_law_size","_law_signs"] eR)(c__law_machine:bB P w K mg base TH 3 "_law_machine" ["_law_script","_law_at","_law_rooms","_law_signs"] fR):bB P w K mg base TH 4 "_law_drawn" ["_law_script"] fS:=
 @dG P w K mg base TH "_law_drawn" (top 34) ["_law_script","_law_rooms","_law_signs","_law_size"] ["_law_script"] 3 lF D oB (fun f cdv A outer s H F E hr=>by
  have nd:=oB.nd
  exact (Fl.aE (Fl.aJ (L2.aJ (i:=1) nd rfl (Or.inl rfl) (aT (aF (bS rfl) bD (aA aD) (aA (aF bJ aZ (aA (dI (cM rfl rfl rfl (cK c__law_cell (hr.mono (by decide)) rfl (cG fun _ _ _ h=>h) (aG (aU (pv 0)) (aG (aT aD) bQ)))))) (aA aD)))))))
   (Fl.aE (Fl.aJ (L2.aJ (i:=2) nd rfl (Or.inl rfl) (aT (aF (bS rfl) bD (aA aD) (aA (aF bJ aZ (aA (dI (cM rfl rfl rfl (cK c__law_cell (hr.mono (by decide)) rfl (cG fun _ _ _ h=>h) (aG (aU (pv 0)) (aG (aT aD) bQ)))))) (aA aD)))))))
   (Fl.aE (Fl.aJ (L2.aJ (i:=3) nd rfl (Or.inl rfl) (aT (aF bJ aZ (aA (dI (cM rfl rfl rfl (cK c__law_cell (hr.mono (by decide)) rfl (cG fun _ _ _ h=>h) (aG (aU (pv 0)) (aG (aT aD) bQ)))))) (aA (a9 (bA rfl) aQ (aA (iY (gB (aM aD (aM aD (aM aD (aM aD bO))))))) (aA (aF bJ aZ (aA (aF cL bV (aA (dI (cM rfl rfl rfl (cK c__law_cell (hr.mono (by decide)) rfl (cG fun _ _ _ h=>h) (aG (aU (pv 0)) (aG (aT aD) bQ)))))) (aA aD))) (aA aD)))))))))
   (Fl.aR (Fl.bM (aT (dW (aM (dI (cM rfl rfl rfl (cK c__law_machine (hr.mono (by decide)) rfl (cG fun _ _ _ h=>h) (aG (aU (pv 0)) (aG (aT aD) (aG (aU (pv 1)) (aG (aU (pv 2)) bQ))))))) (aM (dI (cM rfl rfl rfl (cK c__law_strip (hr.mono (by decide)) rfl (cG fun _ _ _ h=>h) (aG (aU (pv 0)) (aG (aT aD) (aG (aU (pv 3)) (aG (aU (pv 2)) bQ))))))) bO))))))))))
theorem rZ:FnScope ["_law_machine_here","_law_strip_here","_law_most","_law_stands_here","_law_after"] ["_law_machine_here","_law_strip_here","_law_most"] (aL (top 35)):=by constructor<;>first|rfl|decide +kernel
theorem aA3(T:Txt w K mg)(D:DefAt K mg "_law_on" (top 35) ["_law_machine_here","_law_strip_here","_law_most"])(c__law_step:bB P w K mg base TH 1 "_law_step" ["_law_machine_here","_law_strip_here","_law_stand"] eN):bB P w K mg base TH 2 "_law_on" ["_law_machine_here","_law_strip_here","_law_most"] eX:=
 @dG P w K mg base TH "_law_on" (top 35) ["_law_machine_here","_law_strip_here","_law_most","_law_stands_here","_law_after"] ["_law_machine_here","_law_strip_here","_law_most"] 1 kC D rZ (fun f cdv A outer s H F E hr=>by
  have nd:=rZ.nd
  exact (Fl.aE (jN (L2.aJ (i:=3) nd rfl (Or.inl rfl) (gB (aM (dW (aM aD (aM aD bO))) bO))))
   (Fl.aE (Fl.kS (L2.kS (gY ⟨rfl,rfl⟩) (Fl.cO mH jL (aA (c7 rfl (bR b9 rfl T.b_len PySem.boot_len (aP (aC (pv 3)) aX)))) (aC (pv 2)) (bZ _))
   (Fl.aE (Fl.aJ (L2.aJ (i:=4) nd rfl (Or.inl rfl) (cM rfl rfl rfl (cK c__law_step (hr.mono (by decide)) rfl (cG fun _ _ _ h=>h) (aG (aU (pv 0)) (aG (aU (pv 1)) (aG (aT (a9 (bA rfl) aQ (aC (pv 3)) (aA (vM pP lS (aA aD))))) bQ)))))))
   (Fl.aE (Fl.dH (Fl.cO aJE aED (aC (pv 4)) (aA aB8) (bZ _)) (Fl.aR (vN 3 (Fl.bM (aU (pv 3))))) Fl.cJ)
   (Fl.aR (mL rfl (L2.eO (iV PySem.F.plainAttrs_list PySem.F.slot_list_append PySem.F.type_list_append gL (pv 3) (aP (cY (pv 4)) aX)))))))))
   (Fl.aR (vN 3 (Fl.bM (aU (pv 3))))))))
theorem lZ:FnScope ["_law_cell_here","_law_stands_here","_law_most","_law_first","_law_again","_law_kind","_law_at","_law_times"] ["_law_cell_here","_law_stands_here","_law_most"] (aL (top 36)):=by constructor<;>first|rfl|decide +kernel
theorem sA(T:Txt w K mg)(D:DefAt K mg "_law_numbers" (top 36) ["_law_cell_here","_law_stands_here","_law_most"]):bB P w K mg base TH 1 "_law_numbers" ["_law_cell_here","_law_stands_here","_law_most"] dR:=
 @dG P w K mg base TH "_law_numbers" (top 36) ["_law_cell_here","_law_stands_here","_law_most","_law_first","_law_again","_law_kind","_law_at","_law_times"] ["_law_cell_here","_law_stands_here","_law_most"] 0 gU D lZ (fun f cdv A outer s H F E hr=>by
  have nd:=lZ.nd
  exact (Fl.aE (Fl.aJ (L2.aJ (i:=3) nd rfl (Or.inl rfl) (aT (aF bJ aZ (aA (aF cL bV (aC (pv 0)) (aA aD))) (aA (aF (bS rfl) bD (aC (pv 2)) (aA aD)))))))
   (Fl.aE (Fl.aJ (L2.aJ (i:=4) nd rfl (Or.inl rfl) (aT (aF (bS rfl) bD (aA (aF (bS rfl) bD (aC (pv 3)) (aA aD))) (aA (aF bJ aZ (aA (aF cL bV (aC (pv 0)) (aA aD))) (aA (aF (bS rfl) bD (aC (pv 2)) (aA aD)))))))))
   (Fl.aE (Fl.aJ (L2.aJ (i:=5) nd rfl (Or.inl rfl) (aT (aF bJ aZ (aC (pv 0)) (aA aD)))))
   (Fl.aE (Fl.dH (Fl.cO j6 gN (aC (pv 5)) (aA aD) (bZ _)) (Fl.aE (Fl.aJ (L2.aJ (i:=6) nd rfl (Or.inr rfl) (aT (a9 (bA rfl) aQ (aC (pv 1)) (aA (aF bJ aZ (aA (aF cL bV (aC (pv 0)) (aA aD))) (aA (c7 rfl (bR b9 rfl T.b_len PySem.boot_len (aP (aC (pv 1)) aX))))))))))
   (Fl.aE (yX (L2.m4 (i:=7) nd rfl (Or.inl rfl) (by rfl) (N:=["_law_k","_law_stands_here","_law_at"]) (js:=[none,some 1,some 6]) rfl (.own (.cap rfl (.inl rfl) (.inl rfl) (.cap rfl (.inl rfl) (.inl rfl) .nil))) (by rfl) (aAO (jP (gJ rfl T.b_range (aP (aA (c7 rfl (bR b9 rfl T.b_len PySem.boot_len (aP (aC (pv 1)) aX)))) aX))))) (by decide) (by decide) (is:=[0]) (fun cl C s0 H0 fp=>⟨_,(cE (i:=0) (show (["_law_k","_law_stands_here","_law_at"]:List Str).Nodup by decide +kernel) rfl (Or.inl rfl)),(cF 0),(aGP (Fl.cO (dP rfl hr.units) cP (aA (a9 (bA rfl) aQ (aC (pv 1)) (aC (pv 0)))) (aC (pv 2)) (bZ _))),(cY (pv 0))⟩))
   (Fl.aE (Fl.aJ (L2.aJ (i:=3) nd rfl (Or.inl rfl) (aT (a9 (bA rfl) aQ (aC (pv 7)) (aA (aF bJ aZ (aA (aF cL bV (aC (pv 0)) (aA aD))) (aA (c7 rfl (bR b9 rfl T.b_len PySem.boot_len (aP (aC (pv 7)) aX))))))))))
   (Fl.aR (Fl.aJ (L2.aJ (i:=4) nd rfl (Or.inl rfl) (aT (a9 (bA rfl) aQ (aC (pv 7)) (aA (aF dO cV (aA (vM pP lS (aA aD))) (aA (aF bJ aZ (aA (aF cL bV (aC (pv 0)) (aA aD))) (aA (c7 rfl (bR b9 rfl T.b_len PySem.boot_len (aP (aC (pv 7)) aX)))))))))))))))) Fl.cJ)
   (Fl.aE (Fl.dH (Fl.cO (dP rfl hr.units) cP (aC (pv 5)) (aA aD) (bZ _)) (Fl.aE (Fl.aJ (L2.aJ (i:=4) nd rfl (Or.inl rfl) (aT (aF dO cV (aA (aF (bS rfl) bD (aC (pv 2)) (aA (aF bJ aZ (aA (aF cL bV (aC (pv 0)) (aA aD))) (aA aD))))) (aA aD)))))
   (Fl.aR (Fl.aJ (L2.aJ (i:=3) nd rfl (Or.inl rfl) (aT (aF dO cV (aA (aF dO cV (aC (pv 4)) (aA aD))) (aA (aF bJ aZ (aA (aF cL bV (aC (pv 0)) (aA aD))) (aA (aF (bS rfl) bD (aC (pv 2)) (aA aD))))))))))) Fl.cJ)
   (Fl.aE (Fl.dH (Fl.cO (dP rfl hr.units) cP (aC (pv 5)) (aA aD) (bZ _)) (Fl.aR (Fl.aJ (L2.aJ (i:=3) nd rfl (Or.inl rfl) (aT (aF dO cV (aA (aF dO cV (aC (pv 3)) (aA aD))) (aA (aF bJ aZ (aA (aF cL bV (aC (pv 0)) (aA aD))) (aA (aF (bS rfl) bD (aC (pv 2)) (aA aD)))))))))) Fl.cJ)
   (Fl.aE (Fl.dH (Fl.cO (dP rfl hr.units) cP (aC (pv 5)) (aA aD) (bZ _)) (Fl.aR (Fl.aJ (L2.aJ (i:=4) nd rfl (Or.inl rfl) (aT (a9 (bA rfl) aQ (aA (iY (gB (aM (cY (pv 3)) (aM (aF dO cV (aC (pv 3)) (aA aD)) (aM (aF aHS aCY (aA aD) (aA aD)) bO)))))) (aA (aF bJ aZ (aA (aF cL bV (aC (pv 0)) (aA aD))) (aA aD)))))))) Fl.cJ)
   (Fl.aR (Fl.bM (aT (dW (aM (cY (pv 3)) (aM (cY (pv 4)) bO))))))))))))))
theorem aCZ:FnScope ["_law_script","_law_machine_here","_law_strip_here","_law_most","_law_stands_here","_law_k","_law_cell_here","_law_first","_law_again","_law_stand","_law_due"] ["_law_script"] (aL (top 37)):=by constructor<;>first|rfl|decide +kernel
theorem aJ7(T:Txt w K mg){fL:Addr}{fdL:FuncData}(FL:Fun K "law" "law" (top 37) fL fdL)(c__law_drawn:bB P w K mg base TH 4 "_law_drawn" ["_law_script"] fS)(c__law_on:bB P w K mg base TH 2 "_law_on" ["_law_machine_here","_law_strip_here","_law_most"] eX)(c__law_cell:bB P w K mg base TH 1 "_law_cell" ["_law_script","_law_k"] bC)(c__law_numbers:bB P w K mg base TH 1 "_law_numbers" ["_law_cell_here","_law_stands_here","_law_most"] dR)(c__law_truth:bB P w K mg base TH 1 "_law_truth" ["_law_found","_law_due"] fU)(c_holds:bB P w K mg base TH 7 "holds" ["machine","strip","paper"] hJ):FnOk P w K mg base (CXe P w) 8 fL fdL ["_law_script"] (spF (gOf P w K mg base TH) K mg 1 aA0):=
 @aJN P w K mg base TH "law" (top 37) ["_law_script","_law_machine_here","_law_strip_here","_law_most","_law_stands_here","_law_k","_law_cell_here","_law_first","_law_again","_law_stand","_law_due"] ["_law_script"] 7 fL fdL aAZ FL aCZ (fun cdv A outer s H F E hr=>by
  have nd:=aCZ.nd
  exact (Fl.aE (oZ (kY rfl (dL (cF 1) (dL (cF 2) jO)) rfl) (mB (dI (cM rfl rfl rfl (cK c__law_drawn (hr.mono (by decide)) rfl (cG fun _ _ _ h=>h) (aG (aU (pv 0)) bQ)))) (kR rfl (dJ (cE (i:=1) nd rfl (Or.inl rfl)) (dJ (cE (i:=2) nd rfl (Or.inl rfl)) jG)))))
   (Fl.aE (Fl.aJ (L2.aJ (i:=3) nd rfl (Or.inl rfl) (aT (aF fO eF (aA (c7 rfl (bR b9 rfl T.b_len PySem.boot_len (aP (aC (pv 1)) aX)))) (aA (aF (bS rfl) bD (aA (c7 rfl (bR b9 rfl T.b_len PySem.boot_len (aP (aC (pv 2)) aX)))) (aA aD)))))))
   (Fl.aE (Fl.aJ (L2.aJ (i:=4) nd rfl (Or.inl rfl) (cM rfl rfl rfl (cK c__law_on (hr.mono (by decide)) rfl (cG fun _ _ _ h=>h) (aG (aU (pv 1)) (aG (aU (pv 2)) (aG (aU (pv 3)) bQ)))))))
   (Fl.aE (Fl.eY (cF 5) (L2.eY (gY ⟨rfl,rfl⟩) rfl (aG9 (aBD rfl T.b_range (aP (aA aD) (aP (aA aD) aX)))) (cE (i:=5) nd rfl (Or.inl rfl))
   (Fl.aE (Fl.aJ (L2.aJ (i:=6) nd rfl (Or.inl rfl) (aT (aHF (G:=o0) (bR aDI rfl T.b_abs PyProof.Rows.boot_abs (aP (aA (dI (cM rfl rfl rfl (cK c__law_cell (hr.mono (by decide)) rfl (cG fun _ _ _ h=>h) (aG (aU (pv 0)) (aG (aU (pv 5)) bQ)))))) aX))))))
   (Fl.aE (oZ (kY rfl (dL (cF 7) (dL (cF 8) jO)) rfl) (mB (dI (cM rfl rfl rfl (cK c__law_numbers (hr.mono (by decide)) rfl (cG fun _ _ _ h=>h) (aG (aU (pv 6)) (aG (aU (pv 4)) (aG (aU (pv 3)) bQ)))))) (kR rfl (dJ (cE (i:=7) nd rfl (Or.inl rfl)) (dJ (cE (i:=8) nd rfl (Or.inl rfl)) jG)))))
   (Fl.aE (Fl.aJ (L2.aJ (i:=9) nd rfl (Or.inl rfl) (aT (dW (aM (aF dO cV (aA (aF bJ aZ (aA (aF cL bV (aC (pv 6)) (aA aD))) (aA (aF (bS rfl) bD (aA (c7 rfl (bR b9 rfl T.b_len PySem.boot_len (aP (aC (pv 2)) aX)))) (aA aD))))) (aA aD)) (aM (aF dO cV (aA (aF bJ aZ (aA (aF cL bV (aC (pv 6)) (aA aD))) (aA (aF (bS rfl) bD (aA (c7 rfl (bR b9 rfl T.b_len PySem.boot_len (aP (aC (pv 1)) aX)))) (aA aD))))) (aA aD)) bO))))))
   (Fl.aE (Fl.dH (PW.pt (Fl.kQ (Fl.qK mH jL j6 gN (aA aD) (aC (pv 7)) (aA (c7 rfl (bR b9 rfl T.b_len PySem.boot_len (aP (aC (pv 4)) aX))))) (Fl.kN (Fl.cO mI jM (aA (aF bJ aZ (aC (pv 6)) (aA aD))) (aA aD) (bZ _))))) (Fl.aR (Fl.aJ (L2.aJ (i:=9) nd rfl (Or.inl rfl) (aT (a9 (bA rfl) aQ (aC (pv 4)) (aC (pv 7))))))) Fl.cJ)
   (Fl.aE (Fl.aJ (L2.aJ (i:=10) nd rfl (Or.inl rfl) (aT (mK (Fl.aCX mH jL j6 gN mH jL (aA aD) (aC (pv 7)) (aC (pv 8)) (aC (pv 3))) (oS (iD j6 gN (aC (pv 8)) (aA (c7 rfl (bR b9 rfl T.b_len PySem.boot_len (aP (aC (pv 4)) aX)))) (bZ _)))))))
   (Fl.aE (Fl.aJ (L2.aJ (i:=10) nd rfl (Or.inl rfl) (aT (mK (cY (pv 10)) (mK (iD (dP rfl hr.units) cP (aA (a9 (bA rfl) aQ (aC (pv 4)) (aC (pv 7)))) (aC (pv 9)) (bZ _)) (oS (iD (dP rfl hr.units) cP (aA (a9 (bA rfl) aQ (aC (pv 4)) (aC (pv 8)))) (aC (pv 9)) (bZ _))))))))
   (Fl.aR (Fl.dH (Fl.q0 (Fl.l9 (dI (cM rfl rfl rfl (cK c__law_truth (hr.mono (by decide)) rfl (cG fun _ _ _ h=>h) (aG (cM rfl rfl rfl (cK c_holds (hr.mono (by decide)) rfl (cG fun _ _ _ h=>h) (aG (aU (pv 1)) (aG (aU (pv 2)) (aG (aT (dW (@aM _ _ _ _ _ _ _ eI (aM (a9 (bA rfl) aQ (aC (pv 9)) (aA aD)) (aM (a9 (bA rfl) aQ (aC (pv 9)) (aA aD)) (aM (cY (pv 7)) (aM (cY (pv 8)) bO)))) xU))) bQ))))) (aG (aU (pv 10)) bQ))))))) (Fl.aR (Fl.bM (aT nE))) Fl.cJ))))))))))
   (Fl.aR (Fl.bM (aT nE))))))))
end
end Mc
namespace Fl
open PySem L2 PyProof.Rows
@[simp] theorem aMV(i:Nat)(f g:Sg->R PyData)(ρ:Sg):aLL i f g ρ=match ρ[i]? with
 | some (some (.m kvs))=>(f ρ).bind fun k=>(g ρ).bind fun y=>if eD k (kvs.map (·.1))=true/\kvs.length<=16777216 then .ok (.nx (if eU kvs k=true then ρ else ρ.set i (some (.m (putM kvs k y))))) else .bad
 | _=>.bad:=id rfl
@[simp] theorem aNA(i:Nat)(ρ:Sg):aMO i ρ=match ρ[i]? with
 | some (some (.l xs))=>.ok (.nx (ρ.set i (some (.l xs.reverse))))
 | _=>.bad:=id rfl
end Fl
namespace Mc
open PySem L2 PyProof.Rows Fl
mutual
def nbD:PyData->Bool
 | .bool _=>false
 | .dict _=>false
 | .list xs=>nU xs
 | .tuple xs=>nU xs
 | _=>true
def nU:List PyData->Bool
 | []=>true
 | x::t=>nbD x && nU t
end
theorem tO:∀ {xs:List PyData},(∀ x∈xs,nbD x=true)->nU xs=true
 | [],_=>rfl
 | x::t,h=>by
  show (nbD x && nU t)=true
  rw[h x List.mem_cons_self,tO fun y hy=>h y (List.mem_cons_of_mem _ hy)];rfl
mutual
theorem xZ:∀ d:PyData,d.canLay0=true->d.eqv d=true
 | .none,_=>by rfl
 | .bool b,_=>by simp[PyData.eqv]
 | .int i,_=>by simp[PyData.eqv]
 | .str x,_=>by simp[PyData.eqv]
 | .list xs,h=>by
  show PyData.eqvAll xs xs=true
  exact tP xs h
 | .tuple xs,h=>by
  show PyData.eqvAll xs xs=true
  exact tP xs h
 | .dict _,h=>by cases h
theorem tP:∀ xs:List PyData,PyData.canLayAll0 xs=true->PyData.eqvAll xs xs=true
 | [],_=>by rfl
 | x::t,h=>by
  have h':(x.canLay0 && PyData.canLayAll0 t)=true:=h
  rw[Bool.and_eq_true] at h'
  show (x.eqv x && PyData.eqvAll t t)=true
  rw[xZ x h'.1,tP t h'.2];rfl
end
mutual
theorem aC0:∀ x y:PyData,nbD x=true->nbD y=true->x.eqv y=true->x=y
 | .none,.none,_,_,_=>rfl
 | .int i,.int j,_,_,h=>by simp[PyData.eqv] at h;rw[h]
 | .str i,.str j,_,_,h=>by simp[PyData.eqv] at h;rw[h]
 | .list xs,.list ys,h1,h2,h=>by rw[tQ xs ys h1 h2 h]
 | .tuple xs,.tuple ys,h1,h2,h=>by rw[tQ xs ys h1 h2 h]
 | .bool _,_,h,_,_=>by cases h
 | .dict _,_,h,_,_=>by cases h
 | _,.bool _,_,h,_=>by cases h
 | _,.dict _,_,h,_=>by cases h
 | .none,.int _,_,_,h=>by simp[PyData.eqv] at h
 | .none,.str _,_,_,h=>by simp[PyData.eqv] at h
 | .none,.list _,_,_,h=>by simp[PyData.eqv] at h
 | .none,.tuple _,_,_,h=>by simp[PyData.eqv] at h
 | .int _,.none,_,_,h=>by simp[PyData.eqv] at h
 | .int _,.str _,_,_,h=>by simp[PyData.eqv] at h
 | .int _,.list _,_,_,h=>by simp[PyData.eqv] at h
 | .int _,.tuple _,_,_,h=>by simp[PyData.eqv] at h
 | .str _,.none,_,_,h=>by simp[PyData.eqv] at h
 | .str _,.int _,_,_,h=>by simp[PyData.eqv] at h
 | .str _,.list _,_,_,h=>by simp[PyData.eqv] at h
 | .str _,.tuple _,_,_,h=>by simp[PyData.eqv] at h
 | .list _,.none,_,_,h=>by simp[PyData.eqv] at h
 | .list _,.int _,_,_,h=>by simp[PyData.eqv] at h
 | .list _,.str _,_,_,h=>by simp[PyData.eqv] at h
 | .list _,.tuple _,_,_,h=>by simp[PyData.eqv] at h
 | .tuple _,.none,_,_,h=>by simp[PyData.eqv] at h
 | .tuple _,.int _,_,_,h=>by simp[PyData.eqv] at h
 | .tuple _,.str _,_,_,h=>by simp[PyData.eqv] at h
 | .tuple _,.list _,_,_,h=>by simp[PyData.eqv] at h
theorem tQ:∀ xs ys:List PyData,nU xs=true->nU ys=true->PyData.eqvAll xs ys=true->xs=ys
 | [],[],_,_,_=>rfl
 | [],_::_,_,_,h=>by simp[PyData.eqvAll] at h
 | _::_,[],_,_,h=>by simp[PyData.eqvAll] at h
 | x::xs,y::ys,h1,h2,h=>by
  have h1':(nbD x && nU xs)=true:=h1
  have h2':(nbD y && nU ys)=true:=h2
  have h':(x.eqv y && PyData.eqvAll xs ys)=true:=h
  rw[Bool.and_eq_true] at h1' h2' h'
  rw[aC0 x y h1'.1 h2'.1 h'.1,tQ xs ys h1'.2 h2'.2 h'.2]
end
theorem aC1{d:PyData}(h:SeqAt.shaped d=true):d.canLay0=true:=by
 have h':(d.canLay0 && decide (d.depth<=64))=true:=h
 rw[Bool.and_eq_true] at h'
 exact h'.1
theorem aC2{x y:PyData}(hx:nbD x=true)(hy:nbD y=true)(l:SeqAt.shaped x=true):x.eqv y=decide (x=y):=by
 by_cases h:x=y
 ·subst h;rw[xZ x (aC1 l),decide_eq_true rfl]
 ·rw[decide_eq_false h]
  cases q:x.eqv y with
  | false=>rfl
  | true=>exact absurd (aC0 x y hx hy q) h
structure Cp(d:PyData):Prop where
 nb:nbD d=true
 sh:SeqAt.shaped d=true
theorem aJ8{x y:PyData}(hx:Cp x)(hy:Cp y):dEq x y=.ok (.bool (decide (x=y))):=by rw[gR hx.sh hy.sh,aC2 hx.nb hy.nb hx.sh]
theorem aJ9{x:PyData}(h:SeqAt.shaped x=true):dEq x x=.ok (.bool true):=by rw[gR h h,xZ x (aC1 h)]
end Mc
namespace Fl
open PySem L2 PyProof.Rows
@[simp] theorem aF4(i:Nat)(ρ:Sg):vO i ρ=match ρ[i]? with|some (some (.o e))=>.ok (.o e)|_=>.bad:=id rfl
@[simp] theorem tR(cn:Str)(fs:List Str)(f:Sg->R (List PyData))(ρ:Sg):tL cn fs f ρ=(f ρ).bind fun xs=>if xs.length=fs.length then .ok (.o ⟨cn,fs.zip xs⟩) else .bad:=id rfl
@[simp] theorem aC3(f:Sg->R A)(m:Str)(tb:List (Str×(List A->R A)))(ρ:Sg):vMt f m tb ρ=(f ρ).bind fun a=>match a with
 | .o e=>if (e.fs.lookup m).isNone=true then (match tb.lookup e.c with|some G=>G [.o e]|none=>.bad) else .bad
 | _=>.bad:=id rfl
@[simp] theorem aC4(i:Nat)(cs:List Str)(g:Str)(ρ:Sg):eOF i cs g ρ=match ρ[i]? with
 | some (some (.o e))=>if cs.contains e.c=true then (match e.fs.lookup g with|some d=>.ok d|none=>.bad) else .bad
 | _=>.bad:=id rfl
@[simp] theorem aHV(f g:Sg->R PyData)(ρ:Sg):aE3 f g ρ=(f ρ).bind fun x=>if isL x=true then (g ρ).bind fun y=>tN x y else .bad:=id rfl
@[simp] theorem aLS(xs:List PyData):isL (.list xs)=true:=id rfl
@[simp] theorem pV(g g' g'':PyData->PyData->R PyData)(fa fb fc fd:Sg->R PyData)(ρ:Sg):nR g g' g'' fa fb fc fd ρ=(fa ρ).bind fun x=>(fb ρ).bind fun y=>(g x y).bind fun z=>(asB z).bind fun k=>if k=true then (fc ρ).bind fun w=>(g' y w).bind fun z=>(asB z).bind fun k=>if k=true then (fd ρ).bind fun u=>g'' w u else .ok (.bool false) else .ok (.bool false):=id rfl
@[simp] theorem aMW(a b:Bool):aJ6 (.bool a) (.bool b)=.ok (.bool (a != b)):=id rfl
@[simp] theorem aNS(a b:Bool):aMU (.bool a) (.bool b)=.ok (.bool (a == b)):=id rfl
@[simp] theorem aMX(f:Sg->R (List PyData))(g:Sg->R PyData)(ρ:Sg):aLR f g ρ=(f ρ).bind fun xs=>(g ρ).bind fun y=>aF3 xs y:=id rfl
@[simp] theorem aE6(i:Nat)(fi1 fi2:Sg->R (List PyData))(fs:PyData->Sg->Option Sg)(fk fe:Sg->R PyData)(ρ:Sg):aAY i fi1 fi2 fs fk fe ρ=(fi1 ρ).bind fun xs=>if i < ρ.length/\iG (ρ.set i none)=true then (fi2 (ρ.set i none)).bind fun ys=>(lT fs fk fe ys (List.replicate xs.length []) (ρ.set i none)).bind fun r=>.ok (.nx (r.2.set i (some (.d (.list (r.1.map PyData.list)))))) else .bad:=id rfl
theorem aKA{n:Nat}{i:Int}(h0:0<=i)(h1:i < n):ixN n i=some i.toNat:=by unfold ixN;rw[if_pos h0,if_pos h1]
end Fl
namespace Mc
open PySem L2 PyProof.Rows Fl
structure PathOk(rs:List Rw)(z:List Nat)(ps:List (Int×Int))(s:Int×Int):Prop where
 nd:ps.Nodup
 val:∀ x∈ps++[s],eM rs z x
 st0:(ps++[s])[0]? = some (0,0)
 step:∀ (k:Nat) a b,(ps++[s])[k]? = some a->(ps++[s])[k+1]? = some b->cD rs z a=some b
 fin:(s∉ps/\cD rs z s=none)\/(s∈ps/\∃ s',cD rs z s=some s')
 few:ps.length<=iW rs z
theorem aE7{rs:List Rw}{sg:Nat}{z:List Nat}(M:Mach rs sg)(S:cT sg z):∀ (k:Nat) (ps:List (Int×Int)) (s:Int×Int),Way rs z ps s k->(ps++[s])[0]? = some (0,0)->(∀ (k:Nat) a b,(ps++[s])[k]? = some a->(ps++[s])[k+1]? = some b->cD rs z a=some b)->∃ ps' s',eB rs z=ps'++[s']/\PathOk rs z ps' s':=by
 have hin:∀ (k:Nat) (ps:List (Int×Int)) (s:Int×Int),Way rs z ps s k->(ps++[s])[0]? = some (0,0)->(∀ (k:Nat) a b,(ps++[s])[k]? = some a->(ps++[s])[k+1]? = some b->cD rs z a=some b)->s∈ps->∃ ps' s',eB rs z=ps'++[s']/\PathOk rs z ps' s':=by
  intro k ps s W h0 h1 hs
  refine ⟨ps,s,(W.stop hs).symm,W.nd,W.val,h0,h1,.inr ⟨hs,?_⟩,by have:=W.num;omega⟩
  obtain ⟨j,hj⟩:=List.getElem?_of_mem hs
  have hjl:j < ps.length:=(List.getElem?_eq_some_iff.mp hj).1
  have e1:(ps++[s])[j]? = some s:=by rw[List.getElem?_append_left hjl];exact hj
  have e2:∃ b,(ps++[s])[j+1]? = some b:=⟨_,List.getElem?_eq_getElem (by rw[List.length_append];simp;omega)⟩
  obtain ⟨b,e2⟩:=e2
  exact ⟨b,h1 j s b e1 e2⟩
 intro k
 induction k with
 | zero=>
  intro ps s W h0 h1
  by_cases hs:s∈ps
  ·exact hin 0 ps s W h0 h1 hs
  ·obtain ⟨j,hj⟩:=W.more hs;omega
 | succ k ih=>
  intro ps s W h0 h1
  by_cases hs:s∈ps
  ·exact hin _ ps s W h0 h1 hs
  ·cases e:cD rs z s with
   | none=>exact ⟨ps,s,(W.ends hs e).symm,W.nd,W.val,h0,h1,.inl ⟨hs,e⟩,by have:=W.num;omega⟩
   | some s'=>
    refine ih (ps++[s]) s' (W.next M S hs e) (by rw[List.getElem?_append_left (by simp)];exact h0) fun k a b e1 e2=>?_
    by_cases hk:k+1 < (ps++[s]).length
    ·rw[List.getElem?_append_left hk] at e2
     rw[List.getElem?_append_left (by omega)] at e1
     exact h1 k a b e1 e2
    ·have hk2:k+1 < (ps++[s]++[s']).length:=(List.getElem?_eq_some_iff.mp e2).1
     rw[List.length_append,List.length_append] at hk2
     rw[List.length_append] at hk
     simp only[List.length_cons,List.length_nil] at hk hk2
     have hkl:k=ps.length:=by omega
     subst hkl
     have z1:(ps++[s]++[s'])[ps.length]? = some s:=by rw[List.getElem?_append_left (by simp),List.getElem?_append_right (Nat.le_refl _)];simp
     have z2:(ps++[s]++[s'])[ps.length+1]? = some s':=by rw[List.getElem?_append_right (by simp)];simp
     rw[z1] at e1;rw[z2] at e2
     cases e1;cases e2
     exact e
theorem aHW{rs:List Rw}{sg:Nat}{z:List Nat}(M:Mach rs sg)(S:cT sg z):∃ ps s,eB rs z=ps++[s]/\PathOk rs z ps s:=
 aE7 M S (iW rs z) [] (0,0) (Way.start M) rfl fun k a b e1 e2=>by
  have:=(List.getElem?_eq_some_iff.mp e2).1
  simp at this
section
variable{rs:List Rw}{sg:Nat}{z:Str}
theorem aA4(M:Mach rs sg)(S:cT sg z.cps.toList){s:Int×Int}(V:eM rs z.cps.toList s):fY [.d (cC rs),.d (.str z),.d (prD s)]=.ok (.d (.tuple [(bU rs z.cps.toList s).1.d,.int (bU rs z.cps.toList s).2])):=by
 obtain ⟨p,q⟩:=s
 have hr:=aCS V.2.2.1 V.2.2.2
 have hz:z.length<=16777216:=by rw[eW];have:=S.1;omega
 have hl:=mT hz
 rw[eW] at hl
 generalize hL:z.cps.toList=zl at *
 have p0:dIx (prD (p,q)) (.int 0)=.ok (.int p):=rfl
 have p1:dIx (prD (p,q)) (.int 1)=.ok (.int q):=rfl
 have r0:∀ r:Rw,dIx (c9 r) (.int 0)=.ok r.l.d:=fun r=>rfl
 have r1:∀ r:Rw,dIx (c9 r) (.int 1)=.ok (.tuple (r.c.map gH)):=fun r=>rfl
 have r2:∀ r:Rw,dIx (c9 r) (.int 2)=.ok r.r.d:=fun r=>rfl
 have hr:dIx (cC rs) (.int q)=.ok (c9 (dD rs q)):=hr
 unfold fY o5
 by_cases h0:p=0
 ·subst h0
  have hc:bU rs zl (0,q)=((dD rs q).l,1):=by unfold bU;rw[if_pos rfl]
  rw[hc]
  simp[p0,p1,hr,r0,cZ]
 ·by_cases h1:p=(zl.length:Int)+1
  ·have hc:bU rs zl (p,q)=((dD rs q).r,-1):=by unfold bU;rw[if_neg h0,if_pos h1]
   rw[hc]
   have h0':¬ ((zl.length:Int)+1=0):=by omega
   have e0:dEq (.int p) (.int 0)=.ok (.bool false):=by rw[cZ,decide_eq_false h0]
   have e1:dEq (.int p) (.int ((zl.length:Int)+1))=.ok (.bool true):=by rw[cZ,decide_eq_true h1]
   simp[p0,p1,hr,r2,e0,e1,hl]
  ·obtain ⟨c,a1,a2,a3⟩:=sR S V h0 h1
   obtain ⟨cc,b1,b2,b3⟩:=m6 M S V h0 h1
   have v1:=V.1
   have v2:=V.2.1
   simp only at v1 v2 a1 a3 b1 b2
   have hc:bU rs zl (p,q)=(.n cc.1,cc.2):=by unfold bU;rw[if_neg h0,if_neg h1];simp only[b2]
   rw[hc]
   have ix:dIx (.str z) (.int (p - 1))=.ok (.str ⟨#[c]⟩):=aAU hz (jT (by omega) (by rw[hL,<-a1];congr 1;omega))
   have id:=zA (xN M.sg3 a2)
   have ic:dIx (.tuple ((dD rs q).c.map gH)) (.int ((c - 97:Nat):Int))=.ok (gH cc):=pT (gX (by rw[List.getElem?_map,<-a3,b1];rfl))
   simp[p0,p1,hr,r1,cZ,h0,hl,h1,ix,id,ic]
   rfl
theorem cat_w(M:Mach rs sg){zl:List Nat}{s:Int×Int}{x:Str}(V:eM rs zl s)(h:(bU rs zl s).1=.w x):x="by"\/x="out":=by
 have hm:=List.mem_of_getElem? (lP V.2.2.1 V.2.2.2)
 have g:=(M.row _ hm).1
 unfold bU at h
 split at h
 ·have h:(dD rs s.2).l=.w x:=h
  have:=g.1;rw[h] at this;exact this
 ·split at h
  ·have h:(dD rs s.2).r=.w x:=h
   have:=g.2.1;rw[h] at this;exact this
  ·cases h
noncomputable def ptT:Sg->R Bool:=(e1 asB (qR true 4 (eV 2)))
noncomputable def ptB:Sg->R Fw:=(aN (pS 4 (eV 2) (eC (.bool true)))
 (aN (a8 5 (bF 3 fY (aB (vV 0) (aB (vV 1) (aB (vV 2) aS)))))
 (aN (sIf (e1 asB (e2 dIn (e2 dIx (rV 5) (eC (.int 0))) (eC (.tuple [.str "by",.str "out"])))) (sFz 3 (bN (vV 3))) sNx)
 (aN (a8 2 (vD (dF (aB (e2 bL (e2 dIx (rV 2) (eC (.int 0))) (e2 dIx (rV 5) (eC (.int 1)))) (aB (e2 dIx (rV 5) (eC (.int 0))) aS)))))
 (f8 3 (eV 2))))))
theorem aKB:xI=(aN (vP (bF 2 gP (aB (vV 0) (aB (vV 1) aS)))) (aN (a8 2 (vD (eC (.tuple [.int 0,.int 0])))) (aN (fH 3 (fG (aB (eV 2) aS))) (aN (pR 4) (aN (cB ptT ptB) (sFz 3 (bN (vV 3)))))))):=id rfl
def ptρ(rs:List Rw)(z:Str)(ps:List (Int×Int))(s:Int×Int)(u:Option A):Sg:=[some (.d (cC rs)),some (.d (.str z)),some (.d (prD s)),some (.l (ps.map prD++[prD s])),some (.m (been prD ps)),u]
theorem aKC{ps:List (Int×Int)}{s:Int×Int}{u:Option A}(h:s∈ps):ptT (ptρ rs z ps s u)=.ok false:=by
 have h1:=fZ iS ps s
 have h2:=(qV g8).mpr h
 simp[ptT,ptρ,h1,h2]
theorem zH{ps:List (Int×Int)}{s:Int×Int}{u:Option A}(h:s∉ps):ptT (ptρ rs z ps s u)=.ok true:=by
 have h1:=fZ iS ps s
 have h2:=pA g8 h
 simp[ptT,ptρ,h1,h2]
theorem aHX(M:Mach rs sg)(S:cT sg z.cps.toList){ps:List (Int×Int)}{s:Int×Int}{u:Option A}{x:Str}(V:eM rs z.cps.toList s)(h:s∉ps)(hp:ps.length<=2000000)(e:(bU rs z.cps.toList s).1=.w x):ptB (ptρ rs z ps s u)=.ok (.rt (.d (.list ((ps++[s]).map prD)))):=by
 have h1:=fZ iS ps s
 have h3:=nN g8 h
 have h4:(been prD ps).length<=16777216:=by rw[nO];omega
 have f:=aA4 M S V
 rw[e] at f
 have hs:=aAX (cat_w M V e)
 simp[ptB,ptρ,h1,h3,h4,f,Tn.d,hs]
theorem aKD(M:Mach rs sg)(S:cT sg z.cps.toList){ps:List (Int×Int)}{s:Int×Int}{u:Option A}{q:Int}(V:eM rs z.cps.toList s)(h:s∉ps)(hp:ps.length<=2000000)(e:(bU rs z.cps.toList s).1=.n q) :
  ∃ u',ptB (ptρ rs z ps s u)=.ok (.nx (ptρ rs z (ps++[s]) (s.1+(bU rs z.cps.toList s).2,q) u')):=by
 have h1:=fZ iS ps s
 have h3:=nN g8 h
 have h4:(been prD ps).length<=16777216:=by rw[nO];omega
 have f:=aA4 M S V
 rw[e] at f
 generalize (bU rs z.cps.toList s).2=t at *
 have hs:=aAW q
 have h5:ps.length+1 < 16777216:=by omega
 have p0:dIx (prD s) (.int 0)=.ok (.int s.1):=rfl
 have p2:∀ i:Int,prD (i,q)=.tuple [.int i,.int q]:=fun i=>rfl
 exact ⟨some (.d (.tuple [.int q,.int t])),by simp[ptB,ptρ,h1,h3,h4,f,Tn.d,hs,p0,p2,h5]⟩
theorem aHY(M:Mach rs sg)(S:cT sg z.cps.toList):∀ (k:Nat) (ps:List (Int×Int)) (s:Int×Int) (u:Option A),Way rs z.cps.toList ps s k->
  aN (cB ptT ptB) (sFz 3 (bN (vV 3))) (ptρ rs z ps s u)=.ok (.rt (.d (.list ((eB rs z.cps.toList).map prD)))):=by
 have hB:iW rs z.cps.toList<=1002 * 1000:=Nat.mul_le_mul (by have:=S.1;omega) M.len2
 have hin:∀ (k:Nat) (ps:List (Int×Int)) (s:Int×Int) (u:Option A),Way rs z.cps.toList ps s k->s∈ps->aN (cB ptT ptB) (sFz 3 (bN (vV 3))) (ptρ rs z ps s u)=.ok (.rt (.d (.list ((eB rs z.cps.toList).map prD)))):=by
  intro k ps s u W hs
  rw[bK,o9 (aKC hs),<-W.stop hs]
  simp[ptρ]
 intro k
 induction k with
 | zero=>
  intro ps s u W
  by_cases hs:s∈ps
  ·exact hin 0 ps s u W hs
  ·obtain ⟨j,hj⟩:=W.more hs;omega
 | succ k ih=>
  intro ps s u W
  by_cases hs:s∈ps
  ·exact hin _ ps s u W hs
  ·have hp:ps.length<=2000000:=by have:=W.num;omega
   cases hc:(bU rs z.cps.toList s).1 with
   | w x=>
    have e:cD rs z.cps.toList s=none:=by unfold cD;rw[hc]
    rw[bK,o8 (zH hs) (aHX M S W.here hs hp hc),<-W.ends hs e];rfl
   | n q=>
    have e:cD rs z.cps.toList s=some (s.1+(bU rs z.cps.toList s).2,q):=by unfold cD;rw[hc]
    obtain ⟨u',hb⟩:=aKD M S (u:=u) W.here hs hp hc
    have:=ih (ps++[s]) _ u' (W.next M S hs e)
    rw[bK] at this ⊢
    rw[o7 (zH hs) hb]
    exact this
theorem zI(M:Mach rs sg)(S:cT sg z.cps.toList):lB [.d (cC rs),.d (.str z)]=.ok (.d (.list ((eB rs z.cps.toList).map prD))):=by
 have h:=aHY M S (iW rs z.cps.toList) [] (0,0) none (Way.start M)
 have hc:=aE1 M S
 have h:aN (cB ptT ptB) (sFz 3 (bN (vV 3))) [some (.d (cC rs)),some (.d (.str z)),some (.d (.tuple [.int 0,.int 0])),some (.l [.tuple [.int 0,.int 0]]),some (.m []),none]=.ok (.rt (.d (.list ((eB rs z.cps.toList).map prD)))):=h
 unfold lB
 rw[aKB]
 rw[bK] at h
 simp only[dC,bK,aEZ,eH,gZ,hc,xK,iN,jS,dA,jR,b6,kI,c8,R.bind_ok,List.length_cons,List.length_nil,Nat.reduceAdd,Nat.reduceSub,Nat.reduceLeDiff,if_true,List.map_cons,List.map_nil,List.cons_append,List.nil_append,List.replicate,List.set_cons_zero,List.set_cons_succ,List.getElem?_cons_zero,List.getElem?_cons_succ,c6,dE,h]
end
end Mc
namespace Mc
open PySem L2 PyProof.Rows Fl
def brd(a b:Int×Int):Nat:=(kB a.1 b.1).toNat
def pH(xss:List (List PyData))(a b:Int×Int):List (List PyData):=xss.set (brd a b) (xss.getD (brd a b) []++[.int b.2])
def bdL:List (Int×Int)->List (List PyData)->List (List PyData)
 | a::b::t,xss=>bdL (b::t) (pH xss a b)
 | _,xss=>xss
def Adj(n:Nat)(l:List (Int×Int)):Prop:=∀ (k:Nat) a b,l[k]? = some a->l[k+1]? = some b->0<=kB a.1 b.1/\kB a.1 b.1 < n
theorem Adj.tail{n:Nat}{a:Int×Int}{l:List (Int×Int)}(h:Adj n (a::l)):Adj n l:=fun k x y e1 e2=>h (k+1) x y (by simpa using e1) (by simpa using e2)
theorem x0(xss:List (List PyData))(a b:Int×Int):(pH xss a b).length=xss.length:=by unfold pH;rw[List.length_set]
theorem zJ:∀ (l:List (Int×Int)) (xss:List (List PyData)),(bdL l xss).length=xss.length
 | [],_=>rfl
 | [_],_=>rfl
 | a::b::t,xss=>by unfold bdL;rw[zJ (b::t),x0]
def Few(m:Nat)(xss:List (List PyData)):Prop:=∀ r∈xss,r.length+m<=16777000
theorem x5{m:Nat}{xss:List (List PyData)}(h:Few m xss)(j:Nat)(hm:m<=16777000):(xss.getD j []).length+m<=16777000:=by
 rw[List.getD_eq_getElem?_getD]
 cases e:xss[j]? with
 | none=>simpa using hm
 | some r=>exact h r (List.mem_of_getElem? e)
theorem aE8{m:Nat}{xss:List (List PyData)}{a b:Int×Int}(h:Few (m+1) xss)(hm:m+1<=16777000):Few m (pH xss a b):=fun r hr=>by
 unfold pH at hr
 rcases List.mem_or_eq_of_mem_set hr with q|q
 ·have:=h r q;omega
 ·have:=x5 h (brd a b) hm
  rw[q,List.length_append,List.length_singleton];omega
section
variable{D0 D1:PyData}
theorem uM:∀ (l:List (Int×Int)) (xss:List (List PyData)) (u3 u4:Option A),Adj xss.length l->Few l.length xss->l.length<=16777000->
  ∃ u3' u4',lT (stT [(stN 3),(stN 4)]) (e2 (d2 kB) (e2 dIx (rV 3) (eC (.int 0))) (e2 dIx (rV 4) (eC (.int 0)))) (e2 dIx (rV 4) (eC (.int 1))) ((l.zip (l.drop 1)).map fun p=>.tuple [prD p.1,prD p.2]) xss [some (.d D0),some (.d D1),none,u3,u4]=.ok (bdL l xss,[some (.d D0),some (.d D1),none,u3',u4'])
 | [],xss,u3,u4,_,_,_=>⟨u3,u4,rfl⟩
 | [a],xss,u3,u4,_,_,_=>⟨u3,u4,rfl⟩
 | a::b::t,xss,u3,u4,h,hf,hl=>by
  obtain ⟨h0,h1⟩:=h 0 a b rfl rfl
  obtain ⟨u3',u4',q⟩:=uM (b::t) (pH xss a b) (some (.d (prD a))) (some (.d (prD b))) (by rw[x0];exact h.tail) (aE8 hf hl) (by simp at hl ⊢;omega)
  refine ⟨u3',u4',?_⟩
  have e:((a::b::t).zip ((a::b::t).drop 1)).map (fun p=>PyData.tuple [prD p.1,prD p.2])=.tuple [prD a,prD b]::(((b::t).zip ((b::t).drop 1)).map fun p=>PyData.tuple [prD p.1,prD p.2]):=rfl
  rw[e]
  unfold lT bdL
  have hg:=x5 hf (brd a b) hl
  have p0:∀ s:Int×Int,dIx (prD s) (.int 0)=.ok (.int s.1):=fun s=>rfl
  have p1:∀ s:Int×Int,dIx (prD s) (.int 1)=.ok (.int s.2):=fun s=>rfl
  have hd:∀ i j:Int,d2 kB (.int i) (.int j)=.ok (.int (kB i j)):=fun i j=>rfl
  have hx:=aKA h0 h1
  have hno:iG [some (A.d D0),some (.d D1),none,some (.d (prD a)),some (.d (prD b))]=true:=rfl
  simp only[xJ,qU,mP,tH,Option.bind_some,List.set_cons_succ,List.set_cons_zero,fX,R.bind_ok,hno,if_true,bY,bW,b6,List.getElem?_cons_succ,List.getElem?_cons_zero,p0,p1,hd,hx]
  have hb:brd a b=(kB a.1 b.1).toNat:=rfl
  rw[<-hb,if_pos (by simp only[List.length_cons] at hg;omega)]
  exact q
end
theorem aC5(l:List (Int×Int)):(((l.map prD).zip ((l.map prD).drop 1)).map Fl.aAR)=(l.zip (l.drop 1)).map fun p=>PyData.tuple [prD p.1,prD p.2]:=by
 rw[<-List.map_drop,List.zip_map,List.map_map];rfl
theorem aMY(xs:List PyData)(h:xs≠[]):k8 xs (some 1) none=xs.drop 1:=by
 have h1:1<=xs.length:=by cases xs with|nil=>exact absurd rfl h|cons _ _=>simp
 have e:HT.sIx xs.length 0 (some 1)=1:=by
  have:=HT.aGJ xs.length 0 1
  rw[show ((1:Nat):Int)=1 from rfl] at this
  rw[this];omega
 unfold k8
 rw[HT.aDM,e,List.take_of_length_le (by rw[List.length_drop];omega)]
def gE(xss:List (List PyData)):PyData:=.tuple (xss.map PyData.tuple)
theorem aKE{z:Str}{l:List (Int×Int)}(hz:z.cps.toList.length<=1000)(hn:l≠[])(hl:l.length<=16000000)(ha:Adj (z.cps.toList.length+1) l) :
  fV [.d (.list (l.map prD)),.d (.str z)]=.ok (.d (gE (bdL l (List.replicate (z.cps.toList.length+1) [])))):=by
 have hlen:=mT (z:=z) (by rw[eW];omega)
 rw[eW] at hlen
 have hr:eZ 0 ((z.cps.toList.length:Int)+1)=.ok ((List.range (z.cps.toList.length+1)).map fun i:Nat=>.int (i:Int)):=by
  have:=rQ (n:=z.cps.toList.length+1) (by omega)
  rw[<-this];congr 1
 obtain ⟨u3,u4,q⟩:=uM (D0:=.list (l.map prD)) (D1:=.str z) l (List.replicate (z.cps.toList.length+1) []) none none (by rw[List.length_replicate];exact ha) (fun r hr=>by rw[List.eq_of_mem_replicate hr];simp;omega) (by omega)
 have hzip:xF (.list (l.map prD)) (.list ((l.map prD).drop 1))=.ok ((l.zip (l.drop 1)).map fun p=>PyData.tuple [prD p.1,prD p.2]):=by
  unfold xF
  rw[lD (by rw[List.length_map];omega),R.bind_ok,lD (by rw[List.length_drop,List.length_map];omega),R.bind_ok,aC5]
 have hsl:dSl (.list (l.map prD)) (some 1) none=.ok (.list ((l.map prD).drop 1)):=by rw[aLO,aMY _ (by simpa using hn)]
 generalize hy:bdL l (List.replicate (z.cps.toList.length+1) [])=yss at *
 have hyl:yss.length=z.cps.toList.length+1:=by rw[<-hy,zJ,List.length_replicate]
 have hit:dX (.list (yss.map PyData.list))=.ok (yss.map PyData.list):=lD (by rw[List.length_map,hyl];omega)
 have hc:compL (stN 0) l6 (e1 dTup (rV 0)) (kA [none] [some (.d (.list (l.map prD))),some (.d (.str z)),some (.d (.list (yss.map PyData.list))),u3,u4]) (yss.map PyData.list)=.ok (yss.map PyData.tuple):=nM fun x hx=>⟨_,rfl,rfl⟩
 unfold fV lJ
 have hno:iG [some (A.d (.list (l.map prD))),some (.d (.str z)),none,none,none]=true:=rfl
 have hrep:List.replicate 3 (none:Option A)=[none,none,none]:=rfl
 simp only[dC,bK,aE6,jA,bY,b7,bW,kI,b6,List.map_cons,List.map_nil,List.length_cons,List.length_nil,Nat.reduceAdd,Nat.reduceSub,hrep,List.cons_append,List.nil_append,List.getElem?_cons_succ,List.getElem?_cons_zero,hlen,R.bind_ok,fQ,hr,List.set_cons_succ,List.set_cons_zero,hno,and_true,Nat.reduceLT,if_true,aCL,aCN,aCM,hsl,hzip,List.length_map,List.length_range,q,eG,dE,aFW,qT,hit,hc,aJV]
 rfl
theorem aE9{rs:List Rw}{sg:Nat}{z:List Nat}{a b:Int×Int}(M:Mach rs sg)(S:cT sg z)(V:eM rs z a)(h:cD rs z a=some b):0<=kB a.1 b.1/\kB a.1 b.1 < ((z.length+1:Nat):Int):=by
 have W:=m7 M S V h
 have hd:b.1=a.1+1\/b.1=a.1 - 1:=by
  unfold cD at h
  cases e:(bU rs z a).1 with
  | w x=>rw[e] at h;cases h
  | n q=>
   rw[e] at h
   cases h
   have hs:(bU rs z a).2=1\/(bU rs z a).2 = -1:=by
    by_cases h0:a.1=0
    ·left;unfold bU;rw[if_pos h0]
    ·by_cases h1:a.1=(z.length:Int)+1
     ·right;unfold bU;rw[if_neg h0,if_pos h1]
     ·obtain ⟨cc,b1,b2,b3⟩:=m6 M S V h0 h1
      unfold bU
      rw[if_neg h0,if_neg h1]
      simp only[b2]
      exact b3.2.2
   rcases hs with hs|hs<;>rw[hs]
   ·left;rfl
   ·right;show a.1 + -1=a.1 - 1;omega
 obtain ⟨v1,v2,_,_⟩:=V
 obtain ⟨w1,w2,_,_⟩:=W
 unfold kB
 split<;>omega
theorem PathOk.adj{rs:List Rw}{sg:Nat}{z:List Nat}{ps:List (Int×Int)}{s:Int×Int}(M:Mach rs sg)(S:cT sg z)(P:PathOk rs z ps s):Adj (z.length+1) (ps++[s]):=fun k a b e1 e2=>
 aE9 M S (P.val a (List.mem_of_getElem? e1)) (P.step k a b e1 e2)
end Mc
namespace Mc
open PySem L2 PyProof.Rows Fl
noncomputable def fW(rs:List Rw)(z:List Nat)(ps:List (Int×Int))(s:Int×Int):Er:=
 if fK rs z="by" then ⟨"LetBy",[("place",.int s.1),("room",.int s.2),("borders",gE (bdL (ps++[s]) (List.replicate (z.length+1) [])))]⟩
 else if fK rs z="out" then ⟨"ShutOut",[("place",.int s.1),("room",.int s.2),("borders",gE (bdL (ps++[s]) (List.replicate (z.length+1) [])))]⟩
 else ⟨"ForEver",[("place",.int s.1),("room",.int s.2),("first",.int (ps.idxOf s)),("again",.int ps.length)]⟩
inductive EndW(rs:List Rw)(z:List Nat)(ps:List (Int×Int))(s:Int×Int):Prop
 | b (h:fK rs z="by") (n:s∉ps) (e:cD rs z s=none) (c:(bU rs z s).1=.w "by")
 | o (h:fK rs z="out") (n:s∉ps) (e:cD rs z s=none) (c:(bU rs z s).1=.w "out")
 | e (h:fK rs z="ever") (n:s∈ps) (q:Int) (c:(bU rs z s).1=.n q)
theorem aLT{rs:List Rw}{sg:Nat}{z:Str}(M:Mach rs sg)(S:cT sg z.cps.toList):∃ ps s,eB rs z.cps.toList=ps++[s]/\PathOk rs z.cps.toList ps s/\EndW rs z.cps.toList ps s:=by
 obtain ⟨ps,s,e,P⟩:=aHW M S
 obtain ⟨_,ps',s',e',V,q⟩:=aE2 M S
 rw[e] at e'
 obtain ⟨rfl,h2⟩:=List.append_inj' e' rfl
 cases h2
 refine ⟨ps,s,e,P,?_⟩
 rcases q with ⟨q1,x,q2,q3⟩|⟨⟨s',q1⟩,q3⟩
 ·have hn:s∉ps:=by
   rcases P.fin with ⟨h,_⟩|⟨_,s',h⟩
   · exact h
   · rw [q1] at h; cases h
  have hw:fK rs z.cps.toList=x:=by unfold fK;rw[q3];rfl
  rcases cat_w M V q2 with rfl|rfl
  ·exact .b hw hn q1 q2
  ·exact .o hw hn q1 q2
 ·have hm:s∈ps:=by
   rcases P.fin with ⟨_,h⟩|⟨h,_⟩
   · rw [q1] at h; cases h
   · exact h
  have hw:fK rs z.cps.toList="ever":=by unfold fK;rw[q3];rfl
  cases hc:(bU rs z.cps.toList s).1 with
  | w x=>unfold cD at q1;rw[hc] at q1;cases q1
  | n q=>exact .e hw hm q hc
theorem uN(l:List (Int×Int))(s:Int×Int):dIx (.list ((l++[s]).map prD)) (.int (-1))=.ok (prD s):=by
 rw[List.map_append,List.map_cons,List.map_nil];exact lI _ _
theorem aFA{rs:List Rw}{sg:Nat}{z:List Nat}{ps:List (Int×Int)}{s:Int×Int}(M:Mach rs sg)(S:cT sg z)(P:PathOk rs z ps s):ps.length<=1002000:=by
 have hB:iW rs z<=1002 * 1000:=Nat.mul_le_mul (by have:=S.1;omega) M.len2
 have:=P.few
 omega
theorem aLU(s:Int×Int):Sh 1 (prD s):=oP fun y hy=>by
 rcases List.mem_cons.mp hy with q|q
 · rw [q]; exact rG _ _
 · rw [List.mem_singleton.mp q]; exact rG _ _
theorem aA5{l:List (Int×Int)}:SeqAt.shaped (.list (l.map prD))=true:=Sh.shaped (n:=2) (sh_lst fun x hx=>by
 obtain ⟨s,_,rfl⟩:=List.mem_map.mp hx
 exact aLU s) (by decide)
theorem aF5(s:Int×Int):nbD (prD s)=true:=rfl
theorem aKF{a b:Int×Int}:prD a=prD b↔a=b:=⟨fun h=>g8 _ _ h,fun h=>by rw[h]⟩
theorem mX(a b:Int×Int):PyData.eqv (prD a) (prD b)=decide (a=b):=by
 rw[aC2 (aF5 a) (aF5 b) (dB a)]
 exact decide_eq_decide.mpr aKF
theorem zK(s:Int×Int):∀ (l t:List (Int×Int)),s∈l->((l++t).map prD).findIdx? (fun y=>PyData.eqv y (prD s))=some (l.idxOf s)
 | [],_,h=>by cases h
 | a::l,t,h=>by
  rw[List.cons_append,List.map_cons,List.findIdx?_cons,mX]
  by_cases e:a=s
  ·subst e
   rw[decide_eq_true rfl,if_pos rfl,List.idxOf_cons_self]
  ·rw[decide_eq_false e,if_neg (by decide),zK s l t (by
    rcases List.mem_cons.mp h with z|z
    · exact absurd z.symm e
    · exact z), List.idxOf_cons, beq_false_of_ne e]
   rfl
section
variable{rs:List Rw}{sg:Nat}{z:Str}
theorem zL(M:Mach rs sg)(S:cT sg z.cps.toList){ps:List (Int×Int)}{s:Int×Int}(hp:eB rs z.cps.toList=ps++[s])(P:PathOk rs z.cps.toList ps s)(W:EndW rs z.cps.toList ps s):pE [.d (cC rs),.d (.str z)]=.ok (.o (fW rs z.cps.toList ps s)):=by
 have f1:=zI M S
 rw[hp] at f1
 have hfew:=aFA M S P
 have V:eM rs z.cps.toList s:=P.val s (by simp)
 have f2:=aA4 M S V
 have f3:=aKE (z:=z) (l:=ps++[s]) S.1 (by simp) (by rw[List.length_append];simp;omega) (P.adj M S)
 have il:=uN ps s
 have p0:dIx (prD s) (.int 0)=.ok (.int s.1):=rfl
 have p1:dIx (prD s) (.int 1)=.ok (.int s.2):=rfl
 have hrep:List.replicate 3 (none:Option A)=[none,none,none]:=rfl
 have t0:∀ (a:PyData) (i:Int),dIx (.tuple [a,.int i]) (.int 0)=.ok a:=fun a i=>rfl
 unfold pE xV
 cases W with
 | b h n e c=>
  rw[c] at f2
  have q1:dEq (Tn.w "by").d (.str "by")=.ok (.bool true):=rR (.inl rfl) (.inl rfl)
  have he:fW rs z.cps.toList ps s=⟨"LetBy",[("place",.int s.1),("room",.int s.2),("borders",gE (bdL (ps++[s]) (List.replicate (z.cps.toList.length+1) [])))]⟩:=by unfold fW;rw[if_pos h]
  simp only[dC,bK,c6,eH,dA,c8,gZ,R.bind_ok,List.map_cons,List.map_nil,List.length_cons,List.length_nil,Nat.reduceAdd,Nat.reduceSub,hrep,List.cons_append,List.nil_append,List.getElem?_cons_zero,List.getElem?_cons_succ,if_true,f1,List.set_cons_zero,List.set_cons_succ,dE,bY,b7,bW,b6,mR,il,kJ,f2,i9,t0,cH,q1,bX,eG,tR,p0,p1,f3,he]
  rfl
 | o h n e c=>
  rw[c] at f2
  have q1:dEq (Tn.w "out").d (.str "by")=.ok (.bool false):=rR (.inr (.inl rfl)) (.inl rfl)
  have q2:dEq (Tn.w "out").d (.str "out")=.ok (.bool true):=rR (.inr (.inl rfl)) (.inr (.inl rfl))
  have he:fW rs z.cps.toList ps s=⟨"ShutOut",[("place",.int s.1),("room",.int s.2),("borders",gE (bdL (ps++[s]) (List.replicate (z.cps.toList.length+1) [])))]⟩:=by unfold fW;rw[if_neg (by rw[h];decide),if_pos h]
  simp only[dC,bK,c6,eH,dA,c8,gZ,R.bind_ok,List.map_cons,List.map_nil,List.length_cons,List.length_nil,Nat.reduceAdd,Nat.reduceSub,hrep,List.cons_append,List.nil_append,List.getElem?_cons_zero,List.getElem?_cons_succ,if_true,f1,List.set_cons_zero,List.set_cons_succ,dE,bY,b7,bW,b6,mR,il,kJ,f2,i9,t0,cH,q1,q2,Bool.false_eq_true,if_false,eJ,bX,eG,tR,p0,p1,f3,he]
  rfl
 | e h n q c=>
  rw[c] at f2
  have q1:dEq (Tn.n q).d (.str "by")=.ok (.bool false):=by show dEq (.int q) (.str "by")=_;rw[gR (kL q) (nP (.inl rfl))];rfl
  have q2:dEq (Tn.n q).d (.str "out")=.ok (.bool false):=by show dEq (.int q) (.str "out")=_;rw[gR (kL q) (nP (.inr (.inl rfl)))];rfl
  have he:fW rs z.cps.toList ps s=⟨"ForEver",[("place",.int s.1),("room",.int s.2),("first",.int (ps.idxOf s)),("again",.int ps.length)]⟩:=by unfold fW;rw[if_neg (by rw[h];decide),if_neg (by rw[h];decide)]
  have hx:tN (.list ((ps++[s]).map prD)) (prD s)=.ok (.int (ps.idxOf s)):=by
   unfold tN
   dsimp only
   rw[if_pos ⟨dB s,aA5,by rw[List.length_map,List.length_append];simp;omega⟩,zK s ps [s] n]
  have hln:((ps.length+1:Nat):Int) - 1=ps.length:=by omega
  simp only[dC,bK,c6,eH,dA,c8,gZ,R.bind_ok,List.map_cons,List.map_nil,List.length_cons,List.length_nil,Nat.reduceAdd,Nat.reduceSub,hrep,List.cons_append,List.nil_append,List.getElem?_cons_zero,List.getElem?_cons_succ,if_true,f1,List.set_cons_zero,List.set_cons_succ,dE,bY,b7,bW,b6,mR,il,kJ,f2,i9,t0,cH,q1,q2,bX,Bool.false_eq_true,if_false,eJ,eG,tR,p0,p1,aHV,aLS,hx,gQ,List.length_map,List.length_append,lC,hln,he]
  rfl
end
end Mc
namespace Mc
open PySem L2 PyProof.Rows Fl
def itM(rs:List Rw)(z:List Nat):Nat->Option (Int×Int)
 | 0=>some (0,0)
 | n+1=>(itM rs z n).bind (cD rs z)
section
variable{rs:List Rw}{sg:Nat}{z:List Nat}{ps:List (Int×Int)}{s:Int×Int}
theorem PathOk.it(P:PathOk rs z ps s):∀ k:Nat,k < (ps++[s]).length->(ps++[s])[k]? = itM rs z k
 | 0,_=>P.st0
 | k+1,h=>by
  have e1:(ps++[s])[k]? = some (ps++[s])[k]:=List.getElem?_eq_getElem (by omega)
  have e2:(ps++[s])[k+1]? = some (ps++[s])[k+1]:=List.getElem?_eq_getElem h
  have ih:=P.it k (by omega)
  rw[e2]
  unfold itM
  rw[<-ih,e1]
  exact (P.step k _ _ e1 e2).symm
theorem PathOk.last(P:PathOk rs z ps s):itM rs z ps.length=some s:=by
 rw[<-P.it ps.length (by rw[List.length_append];simp),List.getElem?_append_right (Nat.le_refl _)];simp
theorem PathOk.first(P:PathOk rs z ps s)(h:s∈ps):itM rs z (ps.idxOf s)=some s:=by
 have hl:=List.idxOf_lt_length_of_mem h
 rw[<-P.it _ (by rw[List.length_append];omega),List.getElem?_append_left hl,List.getElem?_eq_getElem hl,List.getElem_idxOf]
theorem aC6{f d:Nat}(h:itM rs z (f+d)=itM rs z f):∀ k:Nat,itM rs z (f+k+d)=itM rs z (f+k)
 | 0=>h
 | k+1=>by
  rw[show f+(k+1)+d=(f+k+d)+1 by omega,show f+(k+1)=(f+k)+1 by omega]
  unfold itM
  rw[aC6 h k]
theorem aC7{f d:Nat}(h:itM rs z (f+d)=itM rs z f)(k:Nat):∀ m:Nat,itM rs z (f+k+m * d)=itM rs z (f+k)
 | 0=>by rw[Nat.zero_mul];rfl
 | m+1=>by
  have:=aC6 h (k+m * d)
  rw[show f+k+(m+1) * d=f+(k+m * d)+d by rw[Nat.add_mul];omega,this,show f+(k+m * d)=f+k+m * d by omega,aC7 h k m]
theorem aKG{f d n:Nat}(h:itM rs z (f+d)=itM rs z f)(hn:f<=n):itM rs z n=itM rs z (f+(n - f) % d):=by
 have:=aC7 h ((n - f) % d) ((n - f) / d)
 have e:=Nat.mod_add_div (n - f) d
 rw[Nat.mul_comm] at e
 rw[<-this]
 congr 1
 omega
theorem PathOk.ever(P:PathOk rs z ps s)(h:s∈ps):∀ n:Nat,∃ t,itM rs z n=some t/\(n<=ps.length->(ps++[s])[n]? = some t)/\(ps.length < n->(ps++[s])[ps.idxOf s+(n - ps.idxOf s) % (ps.length - ps.idxOf s)]? = some t):=by
 intro n
 have hl:=List.idxOf_lt_length_of_mem h
 have hp:itM rs z (ps.idxOf s+(ps.length - ps.idxOf s))=itM rs z (ps.idxOf s):=by
  rw[show ps.idxOf s+(ps.length - ps.idxOf s)=ps.length by omega,P.last,P.first h]
 by_cases hn:n<=ps.length
 ·have hlt:n < (ps++[s]).length:=by rw[List.length_append];simp;omega
  have e:=P.it n hlt
  rw[List.getElem?_eq_getElem hlt] at e
  exact ⟨_,e.symm,fun _=>List.getElem?_eq_getElem hlt,fun z=>by omega⟩
 ·have hm:=Nat.mod_lt (n - ps.idxOf s) (show 0 < ps.length - ps.idxOf s by omega)
  have e:=aKG hp (n:=n) (by omega)
  have hlt:ps.idxOf s+(n - ps.idxOf s) % (ps.length - ps.idxOf s) < (ps++[s]).length:=by rw[List.length_append];omega
  have e2:=P.it _ hlt
  rw[List.getElem?_eq_getElem hlt] at e2
  exact ⟨_,by rw[e,<-e2],fun z=>by omega,fun _=>List.getElem?_eq_getElem hlt⟩
end
noncomputable def qY(rs:List Rw)(z:List Nat)(ps:List (Int×Int))(s:Int×Int):PyData:=
 if s∈ps then .tuple [.str "ever",.int s.1,.int s.2,.int (ps.idxOf s),.int ps.length]
 else .tuple [.str (fK rs z),gE (bdL (ps++[s]) (List.replicate (z.length+1) []))]
def tS(ps:List (Int×Int))(s:Int×Int):Er:=⟨"ForEver",[("place",.int s.1),("room",.int s.2),("first",.int (ps.idxOf s)),("again",.int ps.length)]⟩
section
variable{rs:List Rw}{sg:Nat}{z:List Nat}{ps:List (Int×Int)}{s:Int×Int}
theorem aF6(h:fK rs z="by"):fW rs z ps s=⟨"LetBy",[("place",.int s.1),("room",.int s.2),("borders",gE (bdL (ps++[s]) (List.replicate (z.length+1) [])))]⟩:=by unfold fW;rw[if_pos h]
theorem aF7(h:fK rs z="out"):fW rs z ps s=⟨"ShutOut",[("place",.int s.1),("room",.int s.2),("borders",gE (bdL (ps++[s]) (List.replicate (z.length+1) [])))]⟩:=by unfold fW;rw[if_neg (by rw[h];decide),if_pos h]
theorem aA6(h:fK rs z="ever"):fW rs z ps s=tS ps s:=by unfold fW;rw[if_neg (by rw[h];decide),if_neg (by rw[h];decide)];rfl
theorem mt_paper(W:EndW rs z ps s){f:Sg->R A}{ρ:Sg}(h:f ρ=.ok (.o (fW rs z ps s))):vMt f "paper" [("LetBy",gD),("ShutOut",fC),("ForEver",fF)] ρ=.ok (.d (qY rs z ps s)):=by
 rw[aC3,h]
 unfold qY
 cases W with
 | b w n e c=>rw[aF6 w,if_neg n,w];rfl
 | o w n e c=>rw[aF7 w,if_neg n,w];rfl
 | e w n q c=>rw[aA6 w,if_pos n];rfl
theorem mt_stops(W:EndW rs z ps s){f:Sg->R A}{ρ:Sg}(h:f ρ=.ok (.o (fW rs z ps s))):vMt f "stops" [("LetBy",gC),("ShutOut",fB),("ForEver",fD)] ρ=.ok (.d (.bool (decide (s∉ps)))):=by
 rw[aC3,h]
 cases W with
 | b w n e c=>rw[aF6 w,decide_eq_true n];rfl
 | o w n e c=>rw[aF7 w,decide_eq_true n];rfl
 | e w n q c=>rw[aA6 w,decide_eq_false (by simpa using n)];rfl
def sB(r:List PyData):Prop:=∀ x∈r,∃ i:Int,x=.int i
theorem aC8{xss:List (List PyData)}{a b:Int×Int}(h:∀ r∈xss,sB r):∀ r∈pH xss a b,sB r:=fun r hr=>by
 unfold pH at hr
 rcases List.mem_or_eq_of_mem_set hr with q|q
 ·exact h r q
 ·subst q
  intro x hx
  rcases List.mem_append.mp hx with y|y
  ·rw[List.getD_eq_getElem?_getD] at y
   cases e:xss[brd a b]? with
   | none=>rw[e] at y;simp at y
   | some r=>rw[e] at y;exact h r (List.mem_of_getElem? e) x y
  ·exact ⟨b.2,List.mem_singleton.mp y⟩
theorem x6:∀ (l:List (Int×Int)) (xss:List (List PyData)),(∀ r∈xss,sB r)->∀ r∈bdL l xss,sB r
 | [],_,h=>h
 | [_],_,h=>h
 | a::b::t,xss,h=>by unfold bdL;exact x6 (b::t) _ (aC8 h)
theorem aFB{xss:List (List PyData)}(h:∀ r∈xss,sB r):nbD (gE xss)=true/\Sh 2 (gE xss):=by
 refine ⟨tO fun x hx=>?_,oP fun x hx=>?_⟩
 ·obtain ⟨r,hr,rfl⟩:=List.mem_map.mp hx
  exact tO fun y hy=>by obtain ⟨i,rfl⟩:=h r hr y hy;rfl
 ·obtain ⟨r,hr,rfl⟩:=List.mem_map.mp hx
  exact oP fun y hy=>by obtain ⟨i,rfl⟩:=h r hr y hy;exact rG _ _
theorem aLV(l:List (Int×Int))(n:Nat):nbD (gE (bdL l (List.replicate n [])))=true/\Sh 2 (gE (bdL l (List.replicate n []))):=
 aFB (x6 l _ fun r hr=>by rw[List.eq_of_mem_replicate hr];intro x hx;cases hx)
theorem aHZ(W:EndW rs z ps s):fK rs z="by"\/fK rs z="out"\/fK rs z="ever":=by
 cases W with
 | b w n e c=>exact .inl w
 | o w n e c=>exact .inr (.inl w)
 | e w n q c=>exact .inr (.inr w)
theorem aKH{w:Str}(h:w="by"\/w="out"\/w="ever")(n:Nat):Sh n (.str w):=aI6 n (by rcases h with rfl|rfl|rfl<;>decide +kernel)
theorem aLW{w:Str}(h:w="by"\/w="out"\/w="ever"){d:PyData}(hd:nbD d=true/\Sh 2 d):Cp (.tuple [.str w,d]):=by
 refine ⟨?_,Sh.shaped (n:=3) (oP fun x hx=>?_) (by decide)⟩
 ·show (true && (nbD d && true))=true
  rw[hd.1];rfl
 ·rcases List.mem_cons.mp hx with q|q
  · rw [q]; exact aKH h 2
  · rw [List.mem_singleton.mp q]; exact hd.2
theorem aF8(a b c d:Int):Cp (.tuple [.str "ever",.int a,.int b,.int c,.int d]):=
 ⟨rfl,Sh.shaped (n:=1) (oP fun x hx=>by
  simp only[List.mem_cons,List.not_mem_nil,or_false] at hx
  rcases hx with q|q|q|q|q<;>rw[q]
  · exact aKH (.inr (.inr rfl)) 0
  all_goals exact rG _ _) (by decide)⟩
theorem aKI(W:EndW rs z ps s):Cp (qY rs z ps s):=by
 unfold qY
 split
 · exact aF8 _ _ _ _
 · exact aLW (aHZ W) (aLV _ _)
end
section
variable{rs:List Rw}{sg:Nat}{z:Str}{ps:List (Int×Int)}{s:Int×Int}
theorem aC9(P:PathOk rs z.cps.toList ps s)(h:s∈ps)(n:Nat):∃ t,itM rs z.cps.toList n=some t/\g9 [.d (.list ((ps++[s]).map prD)),.o (tS ps s),.d (.int n)]=.ok (.d (prD t)):=by
 obtain ⟨t,e1,e2,e3⟩:=P.ever h n
 refine ⟨t,e1,?_⟩
 have hl:=List.idxOf_lt_length_of_mem h
 have hf:∀ ρ:Sg,ρ[1]? = some (some (.o (tS ps s)))->eOF 1 ["ForEver"] "first" ρ=.ok (.int (ps.idxOf s)):=fun ρ h=>by rw[aC4,h];rfl
 have hg:∀ ρ:Sg,ρ[1]? = some (some (.o (tS ps s)))->eOF 1 ["ForEver"] "again" ρ=.ok (.int ps.length):=fun ρ h=>by rw[aC4,h];rfl
 have hd:dMod (.int ((n:Int) - (ps.idxOf s:Int))) (.int ((ps.length:Int) - (ps.idxOf s:Int)))=.ok (.int (((n:Int) - (ps.idxOf s:Int)) % ((ps.length:Int) - (ps.idxOf s:Int)))):=bP (by omega)
 unfold g9 nS
 have hrep:List.replicate 0 (none:Option A)=[]:=rfl
 have hln:(((ps++[s]).map prD).length:Int)=(ps.length:Int)+1:=by rw[List.length_map,List.length_append];rfl
 by_cases hn:n<=ps.length
 ·have i1:dIx (.list ((ps++[s]).map prD)) (.int (n:Int))=.ok (prD t):=jB (gX (by rw[List.getElem?_map,e2 hn];rfl))
  have hlt:decide ((n:Int) < (ps.length:Int)+1)=true:=decide_eq_true (by omega)
  simp only[dC,bK,cH,b7,bY,bW,List.map_cons,List.map_nil,List.length_cons,List.length_nil,Nat.reduceAdd,Nat.reduceSub,hrep,List.cons_append,List.nil_append,List.getElem?_cons_zero,List.getElem?_cons_succ,R.bind_ok,gQ,hln,fJ,hlt,bX,if_true,eG,dE,i1]
 ·have i1:dIx (.list ((ps++[s]).map prD)) (.int ((ps.idxOf s:Int)+((n:Int) - (ps.idxOf s:Int)) % ((ps.length:Int) - (ps.idxOf s:Int))))=.ok (prD t):=jB (by
   have e:(ps.idxOf s:Int)+((n:Int) - (ps.idxOf s:Int)) % ((ps.length:Int) - (ps.idxOf s:Int))=((ps.idxOf s+(n - ps.idxOf s) % (ps.length - ps.idxOf s):Nat):Int):=by
    rw[show (n:Int) - (ps.idxOf s:Int)=((n - ps.idxOf s:Nat):Int) by omega,show (ps.length:Int) - (ps.idxOf s:Int)=((ps.length - ps.idxOf s:Nat):Int) by omega,<-Int.natCast_emod]
    omega
   rw[e]
   exact gX (by rw[List.getElem?_map,e3 (by omega)];rfl))
  have hlt:decide ((n:Int) < (ps.length:Int)+1)=false:=decide_eq_false (by omega)
  simp only[dC,bK,cH,b7,bY,bW,List.map_cons,List.map_nil,List.length_cons,List.length_nil,Nat.reduceAdd,Nat.reduceSub,hrep,List.cons_append,List.nil_append,List.getElem?_cons_zero,List.getElem?_cons_succ,R.bind_ok,gQ,hln,fJ,hlt,bX,Bool.false_eq_true,if_false,eJ,eG,dE,hf,hg,lC,hd,fQ,i1]
def AtN(rs:List Rw)(z:List Nat)(p r n:Int):Prop:=itM rs z n.toNat=some (p,r)
instance (rs:List Rw) (z:List Nat) (p r n:Int):Decidable (AtN rs z p r n):=inferInstanceAs (Decidable (_=_))
def nV(rs:List Rw)(z:List Nat)(p r f a:Int):Prop:=(0<=f/\f < a/\a<=(rs.length:Int) * ((z.length:Int)+2))/\AtN rs z p r f/\AtN rs z p r a
instance (rs:List Rw) (z:List Nat) (p r f a:Int):Decidable (nV rs z p r f a):=inferInstanceAs (Decidable (_/\_))
theorem aH0(M:Mach rs sg)(S:cT sg z.cps.toList)(hp:eB rs z.cps.toList=ps++[s])(P:PathOk rs z.cps.toList ps s)(h:s∈ps)(w:PyData)(p r f a:Int):gT [.d (cC rs),.d (.str z),.o (tS ps s),.d (.tuple [w,.int p,.int r,.int f,.int a])]=.ok (.d (.bool (decide (nV rs z.cps.toList p r f a)))):=by
 have f1:=zI M S
 rw[hp] at f1
 have hz:z.length<=16777216:=by rw[eW];have:=S.1;omega
 have hl:=mT hz
 rw[eW] at hl
 have hm:dMul (.int (rs.length:Int)) (.int ((z.cps.toList.length:Int)+2))=.ok (.int ((rs.length:Int) * ((z.cps.toList.length:Int)+2))):=mS (by have:=M.len2;omega) (by have:=M.len2;omega)
 have hml:dLen (cC rs)=.ok (.int rs.length):=by show dLen (.tuple (rs.map c9))=_;rw[xL,List.length_map]
 have x1:dIx (.tuple [w,.int p,.int r,.int f,.int a]) (.int 1)=.ok (.int p):=rfl
 have x2:dIx (.tuple [w,.int p,.int r,.int f,.int a]) (.int 2)=.ok (.int r):=rfl
 have x3:dIx (.tuple [w,.int p,.int r,.int f,.int a]) (.int 3)=.ok (.int f):=rfl
 have x4:dIx (.tuple [w,.int p,.int r,.int f,.int a]) (.int 4)=.ok (.int a):=rfl
 have hrep:List.replicate 4 (none:Option A)=[none,none,none,none]:=rfl
 have hrl:(rs.map c9).length=rs.length:=List.length_map ..
 unfold gT lK
 by_cases c:0<=f/\f < a/\a<=(rs.length:Int) * ((z.cps.toList.length:Int)+2)
 ·obtain ⟨c1,c2,c3⟩:=id c
  obtain ⟨t,e1,g1⟩:=aC9 P h f.toNat
  obtain ⟨t2,e2,g2⟩:=aC9 P h a.toNat
  rw[show ((f.toNat:Nat):Int)=f by omega] at g1
  rw[show ((a.toNat:Nat):Int)=a by omega] at g2
  have k1:dEq (prD t) (.tuple [.int p,.int r])=.ok (.bool (decide (t=(p,r)))):=by
   show dEq (prD t) (prD (p,r))=_
   rw[gR (dB t) (dB (p,r)),mX]
  have k2:dEq (prD t2) (.tuple [.int p,.int r])=.ok (.bool (decide (t2=(p,r)))):=by
   show dEq (prD t2) (prD (p,r))=_
   rw[gR (dB t2) (dB (p,r)),mX]
  have hR:decide (nV rs z.cps.toList p r f a)=(decide (t=(p,r)) && decide (t2=(p,r))):=by
   rw[<-Bool.decide_and]
   refine decide_eq_decide.mpr ?_
   unfold nV AtN
   rw[e1,e2,Option.some.injEq,Option.some.injEq]
   exact ⟨fun z=>z.2,fun z=>⟨c,z⟩⟩
  rw[hR]
  simp only[dC,bK,c6,dE,bY,b7,bW,b6,List.map_cons,List.map_nil,List.length_cons,List.length_nil,Nat.reduceAdd,Nat.reduceSub,hrep,List.cons_append,List.nil_append,List.getElem?_cons_zero,List.getElem?_cons_succ,R.bind_ok,x1,x2,x3,x4,List.set_cons_zero,List.set_cons_succ,cH,tJ,pV,kK,fJ,decide_eq_true c1,decide_eq_true c2,decide_eq_true c3,bX,if_true,hml,hl,fQ,hm,Bool.not_true,Bool.false_eq_true,if_false,eJ,eH,dA,c8,gZ,aF4,f1,jR,Nat.reduceLeDiff,eG,mQ,kJ,g1,g2,i9,k1,k2]
  cases decide (t=(p,r))<;>simp
 ·have hR:decide (nV rs z.cps.toList p r f a)=false:=decide_eq_false fun z=>c z.1
  rw[hR]
  have hch:∀ ρ:Sg,ρ[0]? = some (some (.d (cC rs)))->ρ[1]? = some (some (.d (.str z)))->ρ[4]? = some (some (.d (.int f)))->ρ[5]? = some (some (.d (.int a)))->nR dLe dLt dLe (eC (.int 0)) (rV 4) (rV 5) (e2 dMul (e1 dLen (rV 0)) (e2 bL (e1 dLen (rV 1)) (eC (.int 2)))) ρ=.ok (.bool false):=fun ρ r0 r1 r4 r5=>by
   simp only[pV,b6,bW,r0,r1,r4,r5,R.bind_ok,kK,bX,fJ,bY,b7,hml,hl,fQ,hm]
   by_cases c1:0<=f
   ·rw[decide_eq_true c1,if_pos rfl]
    by_cases c2:f < a
    · rw [decide_eq_true c2, if_pos rfl, decide_eq_false fun c3 => c ⟨c1, c2, c3⟩]
    · rw [decide_eq_false c2, if_neg (by decide)]
   ·rw[decide_eq_false c1,if_neg (by decide)]
  simp only[dC,bK,c6,dE,bY,b7,bW,b6,List.map_cons,List.map_nil,List.length_cons,List.length_nil,Nat.reduceAdd,Nat.reduceSub,hrep,List.cons_append,List.nil_append,List.getElem?_cons_zero,List.getElem?_cons_succ,R.bind_ok,x3,x4,List.set_cons_zero,List.set_cons_succ,cH,tJ,bX,eG]
  rw[hch _ rfl rfl rfl rfl]
  rfl
theorem aFC(M:Mach rs sg)(S:cT sg z.cps.toList)(hp:eB rs z.cps.toList=ps++[s])(P:PathOk rs z.cps.toList ps s)(W:EndW rs z.cps.toList ps s)(n:s∉ps){d:PyData}(hd:Cp d):hJ [.d (cC rs),.d (.str z),.d d]=.ok (.d (.bool (decide (d=qY rs z.cps.toList ps s)))):=by
 have f1:=zL M S hp P W
 have m1:=fun (f:Sg->R A) (ρ:Sg)=>mt_paper W (f:=f) (ρ:=ρ)
 have m2:=fun (f:Sg->R A) (ρ:Sg)=>mt_stops W (f:=f) (ρ:=ρ)
 have k:=aJ8 hd (aKI W)
 have hrep:List.replicate 1 (none:Option A)=[none]:=rfl
 have hv:vO 3 [some (A.d (cC rs)),some (.d (.str z)),some (.d d),some (.o (fW rs z.cps.toList ps s))]=.ok (.o (fW rs z.cps.toList ps s)):=rfl
 unfold hJ pU
 simp only[dC,bK,c6,eH,dA,c8,gZ,List.map_cons,List.map_nil,List.length_cons,List.length_nil,Nat.reduceAdd,Nat.reduceSub,hrep,List.cons_append,List.nil_append,List.getElem?_cons_zero,List.getElem?_cons_succ,R.bind_ok,if_true,f1,List.set_cons_zero,List.set_cons_succ,cH,b7,kJ,m2 _ _ hv,i9,bX,decide_eq_true n,eG,dE,bY,bW,m1 _ _ hv,k]
theorem aFD(M:Mach rs sg)(S:cT sg z.cps.toList)(hp:eB rs z.cps.toList=ps++[s])(P:PathOk rs z.cps.toList ps s)(W:EndW rs z.cps.toList ps s)(n:s∈ps)(p r f a:Int):hJ [.d (cC rs),.d (.str z),.d (.tuple [.str "ever",.int p,.int r,.int f,.int a])]=.ok (.d (.bool (decide (nV rs z.cps.toList p r f a)))):=by
 have f1:=zL M S hp P W
 have m2:=fun (f:Sg->R A) (ρ:Sg)=>mt_stops W (f:=f) (ρ:=ρ)
 have he:fW rs z.cps.toList ps s=tS ps s:=by
  cases W with
  | b w n' e c=>exact absurd n n'
  | o w n' e c=>exact absurd n n'
  | e w n' q c=>exact aA6 w
 have f2:=aH0 M S hp P n (.str "ever") p r f a
 have k:dEq (.str "ever") (.str "ever")=.ok (.bool true):=rR (.inr (.inr rfl)) (.inr (.inr rfl))
 have hrep:List.replicate 1 (none:Option A)=[none]:=rfl
 have hv:vO 3 [some (A.d (cC rs)),some (.d (.str z)),some (.d (.tuple [.str "ever",.int p,.int r,.int f,.int a])),some (.o (fW rs z.cps.toList ps s))]=.ok (.o (fW rs z.cps.toList ps s)):=rfl
 have ht:=m2 _ _ hv
 rw[he] at f1 hv ht
 unfold hJ pU
 simp only[dC,bK,c6,eH,dA,c8,gZ,aF4,List.map_cons,List.map_nil,List.length_cons,List.length_nil,Nat.reduceAdd,Nat.reduceSub,hrep,List.cons_append,List.nil_append,List.getElem?_cons_zero,List.getElem?_cons_succ,R.bind_ok,if_true,f1,List.set_cons_zero,List.set_cons_succ,cH,b7,kJ,ht,i9,bX,decide_eq_false (show ¬ s∉ps by simpa using n),Bool.false_eq_true,if_false,eJ,eG,dE,mQ,bY,bW,b6,aCO,k,f2]
end
end Mc
namespace Mc
open PySem L2 PyProof.Rows Fl
theorem aH1{ns:List Int}:∃ (rs:List Rw) (z:Str) (sg:Nat),fS [.d (dZ ns)]=.ok (.d (.tuple [cC rs,.str z]))/\Mach rs sg/\cT sg z.cps.toList:=by
 obtain ⟨v0,hv0⟩:=lH ns 0
 obtain ⟨v1,hv1⟩:=lH ns 1
 obtain ⟨v2,hv2⟩:=lH ns 2
 have k5:∀ y:Int,dMod (.int y) (.int 5)=.ok (.int (y % 5)):=fun y=>bP (by decide)
 have k3:∀ y:Int,dMod (.int y) (.int 3)=.ok (.int (y % 3)):=fun y=>bP (by decide)
 have k4:∀ y:Int,dMod (.int y) (.int 4)=.ok (.int (y % 4)):=fun y=>bP (by decide)
 have d3:∀ y:Int,dDiv (.int y) (.int 3)=.ok (.int (y / 3)):=fun y=>eK (by decide) (by decide)
 obtain ⟨n,hn,n1,n5⟩:∃ n:Nat,1+v0 % 5=(n:Int)/\1<=n/\n<=5:=⟨(1+v0 % 5).toNat,by omega,by omega,by omega⟩
 obtain ⟨sg,hs,s1,s3⟩:∃ sg:Nat,1+v1 % 3=(sg:Int)/\1<=sg/\sg<=3:=⟨(1+v1 % 3).toNat,by omega,by omega,by omega⟩
 obtain ⟨k,hk,kp,kl⟩:∃ k:Int,dIx (.list [.int 8,.int 8,.int 25,.int 57]) (.int (v1 / 3 % 4))=.ok (.int k)/\0 < k/\k<=57:=by
  have h1:=Int.emod_nonneg (v1 / 3) (show (4:Int)≠0 by decide)
  have h2:=Int.emod_lt_of_pos (v1 / 3) (show (0:Int) < 4 by decide)
  rcases (by omega:v1 / 3 % 4=0\/v1 / 3 % 4=1\/v1 / 3 % 4=2\/v1 / 3 % 4=3) with h|h|h|h<;>rw[h]
  · exact ⟨8, rfl, by decide, by decide⟩
  · exact ⟨8, rfl, by decide, by decide⟩
  · exact ⟨25, rfl, by decide, by decide⟩
  · exact ⟨57, rfl, by decide, by decide⟩
 have hm:dMod (.int v2) (.int k)=.ok (.int (v2 % k)):=bP kp
 obtain ⟨m,em,lm⟩:∃ m:Nat,v2 % k=(m:Int)/\m<=1000:=by
  have h1:=Int.emod_nonneg v2 (show k≠0 by omega)
  have h2:=Int.emod_lt_of_pos v2 kp
  exact ⟨(v2 % k).toNat,by omega,by omega⟩
 rw[em] at hm
 obtain ⟨rs,e1,M,_⟩:=aJ3 (ns:=ns) (at':=6) (n:=n) (sg:=sg) (by decide) n1 (by omega) s1 s3
 obtain ⟨z,e2,S,_⟩:=aHP (ns:=ns) (at':=11) (m:=m) (sg:=sg) (by decide) lm s1 s3
 refine ⟨rs,z,sg,?_,M,S⟩
 unfold fS lF
 simp[hv0,hv1,hv2,k5,k3,k4,d3,hn,hs,hk,hm,e1,e2]
theorem aLX(b:Bool):fU [.d (.bool b),.d (.bool b)]=.ok (.d (.bool true)):=by
 have h:dEq (.bool b) (.bool b)=.ok (.bool true):=aJ9 (by cases b<;>rfl)
 have t:iK "bool" (.bool b)=.ok (.bool true):=rfl
 unfold fU lG
 simp[h,t]
theorem uO{α:Type}{fs:PyData->Sg->Option Sg}{ft:Sg->R Bool}{fe:Sg->R PyData}{ρ0:Sg}{d:α->PyData}{p:α->Bool}:∀ {xs:List α},(∀ x∈xs,∃ ρ1,fs (d x) ρ0=some ρ1/\ft ρ1=.ok (p x)/\fe ρ1=.ok (d x))->compL fs ft fe ρ0 (xs.map d)=.ok ((xs.filter p).map d)
 | [],_=>rfl
 | x::t,h=>by
  obtain ⟨ρ1,h1,h2,h3⟩:=h x List.mem_cons_self
  have ih:=uO (xs:=t) fun y hy=>h y (List.mem_cons_of_mem _ hy)
  rw[List.map_cons]
  unfold compL
  rw[h1,fX,R.bind_ok,h2,R.noEx_ok,R.bind_ok]
  cases e:p x with
  | true=>rw[if_pos rfl,h3,R.noEx_ok,R.bind_ok,ih,R.bind_ok,List.filter_cons,if_pos e,List.map_cons]
  | false=>rw[if_neg (by decide),ih,List.filter_cons,if_neg (by rw[e];decide)]
end Mc
namespace Mc
open PySem L2 PyProof.Rows Fl
section
variable{rs:List Rw}{sg:Nat}{z:Str}
noncomputable def onT:Sg->R Bool:=(e1 asB (e2 dLe (e1 dLen (rV 3)) (rV 2)))
noncomputable def onB:Sg->R Fw:=(aN (a8 4 (bF 3 eN (aB (vV 0) (aB (vV 1) (aB (vD (e2 dIx (rV 3) (e1 dNeg (eC (.int 1))))) aS)))))
 (aN (sIf (e1 asB (e2 dIs (rV 4) (eC .none))) (sFz 3 (bN (vV 3))) sNx)
 (f8 3 (eV 4))))
theorem aKJ:kC=(aN (fH 3 (fG (aB (dF (aB (eC (.int 0)) (aB (eC (.int 0)) aS))) aS))) (aN (cB onT onB) (sFz 3 (bN (vV 3))))):=id rfl
def onρ(rs:List Rw)(z:Str)(m:Nat)(l:List (Int×Int))(u:Option A):Sg:=[some (.d (cC rs)),some (.d (.str z)),some (.d (.int m)),some (.l (l.map prD)),u]
structure OnL(rs:List Rw)(z:List Nat)(m:Nat)(l:List (Int×Int)):Prop where
 it:∀ k:Nat,k < l.length->l[k]? = itM rs z k
 len:l.length<=m+1
 fin:l.length=m+1\/itM rs z l.length=none
theorem aH2(M:Mach rs sg)(S:cT sg z.cps.toList){m:Nat}(hm:m<=2000000):∀ (k:Nat) (ps:List (Int×Int)) (s:Int×Int) (u:Option A),ps.length+k=m->(∀ j:Nat,j < (ps++[s]).length->(ps++[s])[j]? = itM rs z.cps.toList j)->eM rs z.cps.toList s->
  ∃ l,aN (cB onT onB) (sFz 3 (bN (vV 3))) (onρ rs z m (ps++[s]) u)=.ok (.rt (.d (.list (l.map prD))))/\OnL rs z.cps.toList m l/\l≠[]:=by
 have tst:∀ (ps:List (Int×Int)) (s:Int×Int) (u:Option A),onT (onρ rs z m (ps++[s]) u)=.ok (decide ((ps.length:Int)+1<=m)):=fun ps s u=>by
  have e:(((ps++[s]).map prD).length:Int)=(ps.length:Int)+1:=by rw[List.length_map,List.length_append];rfl
  simp only[onT,onρ,b7,bY,bW,List.getElem?_cons_zero,List.getElem?_cons_succ,R.bind_ok,gQ,e,kK,bX]
 intro k
 induction k with
 | zero=>
  intro ps s u hk hit V
  have t:=tst ps s u
  rw[decide_eq_false (by omega)] at t
  refine ⟨ps++[s],?_,⟨hit,by rw[List.length_append];simp;omega,.inl (by rw[List.length_append];simp;omega)⟩,by simp⟩
  rw[bK,o9 t];rfl
 | succ k ih=>
  intro ps s u hk hit V
  have t:=tst ps s u
  rw[decide_eq_true (by omega)] at t
  have f:=xO M S V
  have il:=uN ps s
  have hs:itM rs z.cps.toList ps.length=some s:=by
   rw[<-hit ps.length (by rw[List.length_append];simp),List.getElem?_append_right (Nat.le_refl _)];simp
  cases e:cD rs z.cps.toList s with
  | none=>
   rw[e] at f
   have hb:onB (onρ rs z m (ps++[s]) u)=.ok (.rt (.d (.list ((ps++[s]).map prD)))):=by
    simp only[onB,onρ,bK,c6,eH,dA,c8,gZ,dE,bY,b7,bW,b6,List.getElem?_cons_zero,List.getElem?_cons_succ,R.bind_ok,mR,il,List.length_cons,List.length_nil,Nat.reduceAdd,if_true,f,l8,List.set_cons_zero,List.set_cons_succ,cH,aFY,aHL,bX,aJU,aLM,eG]
   refine ⟨ps++[s],?_,⟨hit,by rw[List.length_append];simp;omega,.inr ?_⟩,by simp⟩
   ·rw[bK,o8 t hb];rfl
   ·rw[List.length_append]
    show itM rs z.cps.toList (ps.length+1)=none
    unfold itM
    rw[hs];exact e
  | some s'=>
   rw[e] at f
   have hl:((ps++[s]).map prD).length < 16777216:=by rw[List.length_map,List.length_append];simp;omega
   have hb:onB (onρ rs z m (ps++[s]) u)=.ok (.nx (onρ rs z m (ps++[s]++[s']) (some (.d (prD s'))))):=by
    simp only[onB,onρ,bK,c6,eH,dA,c8,gZ,dE,bY,b7,bW,kI,b6,List.getElem?_cons_zero,List.getElem?_cons_succ,R.bind_ok,mR,il,List.length_cons,List.length_nil,Nat.reduceAdd,if_true,f,l8,List.set_cons_zero,List.set_cons_succ,cH,aFY,uL,bX,Bool.false_eq_true,if_false,eJ,aHK,hl]
    rw[List.map_append (l₁:=ps++[s]),List.map_cons,List.map_nil]
   obtain ⟨l,q,O,hn⟩:=ih (ps++[s]) s' (some (.d (prD s'))) (by rw[List.length_append];simp;omega) (fun j hj=>by
    by_cases hj2:j < (ps++[s]).length
    ·rw[List.getElem?_append_left hj2];exact hit j hj2
    ·rw[List.length_append,List.length_singleton] at hj
     have hj3:j=(ps++[s]).length:=by omega
     rw[List.length_append,List.length_singleton] at hj3
     subst hj3
     rw[List.getElem?_append_right (by rw[List.length_append,List.length_singleton];omega)]
     rw[List.length_append,List.length_singleton,Nat.sub_self]
     unfold itM
     rw[hs]
     exact e.symm) (m7 M S V e)
   refine ⟨l,?_,O,hn⟩
   rw[bK] at q ⊢
   rw[o7 t hb]
   exact q
theorem aMZ(M:Mach rs sg)(S:cT sg z.cps.toList){m:Nat}(hm:m<=2000000):∃ l,eX [.d (cC rs),.d (.str z),.d (.int m)]=.ok (.d (.list (l.map prD)))/\OnL rs z.cps.toList m l/\l≠[]:=by
 obtain ⟨l,q,O,hn⟩:=aH2 M S hm m [] (0,0) none (by simp) (fun j hj=>by
  have:j=0:=by simpa using hj
  subst this;rfl) (Way.start M).here
 refine ⟨l,?_,O,hn⟩
 unfold eX
 rw[aKJ]
 have q:aN (cB onT onB) (sFz 3 (bN (vV 3))) [some (.d (cC rs)),some (.d (.str z)),some (.d (.int m)),some (.l [.tuple [.int 0,.int 0]]),none]=.ok (.rt (.d (.list (l.map prD)))):=q
 rw[bK] at q
 have hrep:List.replicate 2 (none:Option A)=[none,none]:=rfl
 simp only[dC,bK,iN,jS,dA,jR,b6,c8,R.bind_ok,List.length_cons,List.length_nil,Nat.reduceAdd,Nat.reduceSub,Nat.reduceLeDiff,if_true,List.map_cons,List.map_nil,hrep,List.cons_append,List.nil_append,List.set_cons_zero,List.set_cons_succ,q]
theorem sC{α:Type}(d:α->PyData)(xs:List α){i:Int}(h0 : -(xs.length:Int)<=i)(h1:i < xs.length):∃ v∈xs,dIx (.list (xs.map d)) (.int i)=.ok (d v):=by
 obtain ⟨j,hj,hx⟩:∃ j:Nat,j < xs.length/\ixN (xs.map d).length i=some j:=by
  rw[List.length_map]
  unfold ixN
  by_cases h:0<=i
  · exact ⟨i.toNat, by omega, by rw [if_pos h, if_pos h1]⟩
  · exact ⟨(i + xs.length).toNat, by omega, by rw [if_neg h, if_pos h0]⟩
 refine ⟨xs[j],List.getElem_mem hj,jB ?_⟩
 unfold atI
 rw[hx]
 show (xs.map d)[j]? = _
 rw[List.getElem?_map,List.getElem?_eq_getElem hj];rfl
section
variable{c:Int}{l:List (Int×Int)}{m:Nat}
def nuρ(c:Int)(l:List (Int×Int))(m:Nat)(f a:Int)(u6 u7:Option A):Sg:=[some (.d (.int c)),some (.d (.list (l.map prD))),some (.d (.int m)),some (.d (.int f)),some (.d (.int a)),some (.d (.int (c % 8))),u6,u7]
noncomputable def nu1:Sg->R Fw:=(sIf (e1 asB (e2 dLt (rV 5) (eC (.int 4)))) (aN (a8 6 (vD (e2 dIx (rV 1) (e2 dMod (e2 dDiv (rV 0) (eC (.int 8))) (e1 dLen (rV 1))))))
 (aN (fH 7 (i7 [none,some 1,some 6] (fP (e1 dLen (rV 1))) (stN 0) (e1 asB (e2 dEq (e2 dIx (rV 1) (rV 0)) (rV 2))) (eV 0)))
 (aN (a8 3 (vD (e2 dIx (rV 7) (e2 dMod (e2 dDiv (rV 0) (eC (.int 4096))) (e1 dLen (rV 7))))))
 (a8 4 (vD (e2 dIx (rV 7) (e2 dSub (e1 dNeg (eC (.int 1))) (e2 dMod (e2 dDiv (rV 0) (eC (.int 65536))) (e1 dLen (rV 7)))))))))) sNx)
noncomputable def nu2:Sg->R Fw:=(sIf (e1 asB (e2 dEq (rV 5) (eC (.int 4)))) (aN (a8 4 (vD (e2 dSub (e2 bL (rV 2) (e2 dMod (e2 dDiv (rV 0) (eC (.int 8))) (eC (.int 3)))) (eC (.int 1)))))
 (a8 3 (vD (e2 dSub (e2 dSub (rV 4) (eC (.int 1))) (e2 dMod (e2 dDiv (rV 0) (eC (.int 64))) (e2 bL (rV 2) (eC (.int 1)))))))) sNx)
noncomputable def nu3:Sg->R Fw:=(sIf (e1 asB (e2 dEq (rV 5) (eC (.int 5)))) (a8 3 (vD (e2 dSub (e2 dSub (rV 3) (eC (.int 1))) (e2 dMod (e2 dDiv (rV 0) (eC (.int 64))) (e2 bL (rV 2) (eC (.int 1))))))) sNx)
noncomputable def nu4:Sg->R Fw:=(sIf (e1 asB (e2 dEq (rV 5) (eC (.int 6)))) (a8 4 (vD (e2 dIx (eL (fG (aB (eV 3) (aB (e2 dSub (rV 3) (eC (.int 1))) (aB (e2 dPow (eC (.int 10)) (eC (.int 40))) aS))))) (e2 dMod (e2 dDiv (rV 0) (eC (.int 64))) (eC (.int 3)))))) sNx)
theorem aFE:gU=(aN (a8 3 (vD (e2 dMod (e2 dDiv (rV 0) (eC (.int 8))) (e2 bL (rV 2) (eC (.int 2))))))
 (aN (a8 4 (vD (e2 bL (e2 bL (rV 3) (eC (.int 1))) (e2 dMod (e2 dDiv (rV 0) (eC (.int 4096))) (e2 bL (rV 2) (eC (.int 1)))))))
 (aN (a8 5 (vD (e2 dMod (rV 0) (eC (.int 8)))))
 (aN nu1 (aN nu2 (aN nu3 (aN nu4
 (bN (vD (dF (aB (eV 3) (aB (eV 4) aS)))))))))))):=id rfl
theorem d8(y:Int):dDiv (.int y) (.int 8)=.ok (.int (y / 8)):=eK (by decide) (by decide)
theorem d64(y:Int):dDiv (.int y) (.int 64)=.ok (.int (y / 64)):=eK (by decide) (by decide)
theorem aF9(y:Int):dDiv (.int y) (.int 4096)=.ok (.int (y / 4096)):=eK (by decide) (by decide)
theorem aKK(y:Int):dDiv (.int y) (.int 65536)=.ok (.int (y / 65536)):=eK (by decide) (by decide)
theorem aKL(hl:l≠[])(hll:l.length<=16000000)(f a:Int)(u6 u7:Option A):∃ f' a' u6' u7',nu1 (nuρ c l m f a u6 u7)=.ok (.nx (nuρ c l m f' a' u6' u7')):=by
 by_cases h:c % 8 < 4
 ·have h1:1<=l.length:=by cases l with|nil=>exact absurd rfl hl|cons _ _=>simp
  have hm:dMod (.int (c / 8)) (.int (l.length:Int))=.ok (.int (c / 8 % (l.length:Int))):=bP (by omega)
  have b1:=Int.emod_nonneg (c / 8) (show (l.length:Int)≠0 by omega)
  have b2:=Int.emod_lt_of_pos (c / 8) (show 0 < (l.length:Int) by omega)
  obtain ⟨s,hs,hx⟩:=sC prD l (i:=c / 8 % (l.length:Int)) (by omega) (by omega)
  have hr:=rQ (n:=l.length) (by omega)
  have hcp:=uO (fs:=stN 0) (ft:=(e1 asB (e2 dEq (e2 dIx (rV 1) (rV 0)) (rV 2)))) (fe:=eV 0) (ρ0:=[none,some (.d (.list (l.map prD))),some (.d (prD s))]) (d:=fun i:Nat=>PyData.int (i:Int)) (p:=fun i=>decide (l[i]? = some s)) (xs:=List.range l.length) fun i hi=>by
   have hil:=List.mem_range.mp hi
   have e:dIx (.list (l.map prD)) (.int (i:Int))=.ok (prD l[i]):=jB (gX (by rw[List.getElem?_map,List.getElem?_eq_getElem hil];rfl))
   refine ⟨_,rfl,?_,rfl⟩
   simp only[b7,bY,bW,List.set_cons_zero,List.getElem?_cons_zero,List.getElem?_cons_succ,R.bind_ok,e]
   rw[gR (dB _) (dB _),mX,R.bind_ok,bX,List.getElem?_eq_getElem hil]
   exact congrArg R.ok (decide_eq_decide.mpr ⟨fun z=>by rw[z],fun z=>Option.some.inj z⟩)
  have hne:(List.range l.length).filter (fun i=>decide (l[i]? = some s))≠[]:=by
   obtain ⟨j,hj⟩:=List.getElem?_of_mem hs
   have hjl:=(List.getElem?_eq_some_iff.mp hj).1
   intro z
   have:j∈(List.range l.length).filter (fun i=>decide (l[i]? = some s)):=List.mem_filter.mpr ⟨List.mem_range.mpr hjl,decide_eq_true hj⟩
   rw[z] at this
   cases this
  generalize (List.range l.length).filter (fun i=>decide (l[i]? = some s))=ts at *
  have ht:1<=ts.length:=by cases ts with|nil=>exact absurd rfl hne|cons _ _=>simp
  have hm2:dMod (.int (c / 4096)) (.int (ts.length:Int))=.ok (.int (c / 4096 % (ts.length:Int))):=bP (by omega)
  have hm3:dMod (.int (c / 65536)) (.int (ts.length:Int))=.ok (.int (c / 65536 % (ts.length:Int))):=bP (by omega)
  have e1':=Int.emod_nonneg (c / 4096) (show (ts.length:Int)≠0 by omega)
  have e2':=Int.emod_lt_of_pos (c / 4096) (show 0 < (ts.length:Int) by omega)
  have e3':=Int.emod_nonneg (c / 65536) (show (ts.length:Int)≠0 by omega)
  have e4':=Int.emod_lt_of_pos (c / 65536) (show 0 < (ts.length:Int) by omega)
  obtain ⟨f',_,hf⟩:=sC (fun i:Nat=>PyData.int (i:Int)) ts (i:=c / 4096 % (ts.length:Int)) (by omega) (by omega)
  obtain ⟨a',_,ha⟩:=sC (fun i:Nat=>PyData.int (i:Int)) ts (i:=-1 - c / 65536 % (ts.length:Int)) (by omega) (by omega)
  have hcap:∀ (f a:Int) (u7:Option A),kA [none,some 1,some 6] [some (.d (.int c)),some (.d (.list (l.map prD))),some (.d (.int m)),some (.d (.int f)),some (.d (.int a)),some (.d (.int (c % 8))),some (.d (prD s)),u7]=[none,some (.d (.list (l.map prD))),some (.d (prD s))]:=fun _ _ _=>rfl
  refine ⟨f',a',some (.d (prD s)),some (.l (ts.map fun i:Nat=>PyData.int (i:Int))),?_⟩
  simp only[nu1,nuρ,cH,b7,bY,bW,b6,List.getElem?_cons_zero,List.getElem?_cons_succ,R.bind_ok,fJ,decide_eq_true h,bX,if_true,bK,c6,dE,d8,gQ,List.length_map,hm,hx,List.set_cons_zero,List.set_cons_succ,iN,qT,jA,hr,hcap,hcp,aF9,aKK,hm2,hm3,hf,mR,lC,ha]
 ·refine ⟨f,a,u6,u7,?_⟩
  simp only[nu1,nuρ,cH,b7,bY,bW,b6,List.getElem?_cons_zero,List.getElem?_cons_succ,R.bind_ok,fJ,decide_eq_false h,bX,Bool.false_eq_true,if_false,eJ]
theorem aKM(f a:Int)(u6 u7:Option A):∃ f' a' u6' u7',nu2 (nuρ c l m f a u6 u7)=.ok (.nx (nuρ c l m f' a' u6' u7')):=by
 have m3:∀ y:Int,dMod (.int y) (.int 3)=.ok (.int (y % 3)):=fun y=>bP (by decide)
 have m1:∀ y:Int,dMod (.int y) (.int ((m:Int)+1))=.ok (.int (y % ((m:Int)+1))):=fun y=>bP (by omega)
 by_cases h:c % 8=4
 ·refine ⟨(m:Int)+c / 8 % 3 - 1 - 1 - c / 64 % ((m:Int)+1),(m:Int)+c / 8 % 3 - 1,u6,u7,?_⟩
  simp only[nu2,nuρ,cH,b7,bY,bW,b6,List.getElem?_cons_zero,List.getElem?_cons_succ,R.bind_ok,cZ,decide_eq_true h,bX,if_true,bK,c6,dE,d8,d64,m3,m1,fQ,lC,List.set_cons_zero,List.set_cons_succ]
 ·refine ⟨f,a,u6,u7,?_⟩
  simp only[nu2,nuρ,cH,b7,bY,bW,b6,List.getElem?_cons_zero,List.getElem?_cons_succ,R.bind_ok,cZ,decide_eq_false h,bX,Bool.false_eq_true,if_false,eJ]
theorem aKN(f a:Int)(u6 u7:Option A):∃ f' a' u6' u7',nu3 (nuρ c l m f a u6 u7)=.ok (.nx (nuρ c l m f' a' u6' u7')):=by
 have m1:∀ y:Int,dMod (.int y) (.int ((m:Int)+1))=.ok (.int (y % ((m:Int)+1))):=fun y=>bP (by omega)
 by_cases h:c % 8=5
 ·refine ⟨f - 1 - c / 64 % ((m:Int)+1),a,u6,u7,?_⟩
  simp only[nu3,nuρ,cH,b7,bY,bW,b6,List.getElem?_cons_zero,List.getElem?_cons_succ,R.bind_ok,cZ,decide_eq_true h,bX,if_true,c6,dE,d64,m1,fQ,lC,List.set_cons_zero,List.set_cons_succ]
 ·refine ⟨f,a,u6,u7,?_⟩
  simp only[nu3,nuρ,cH,b7,bY,bW,b6,List.getElem?_cons_zero,List.getElem?_cons_succ,R.bind_ok,cZ,decide_eq_false h,bX,Bool.false_eq_true,if_false,eJ]
theorem aKO(f a:Int)(u6 u7:Option A):∃ f' a' u6' u7',nu4 (nuρ c l m f a u6 u7)=.ok (.nx (nuρ c l m f' a' u6' u7')):=by
 have m3:∀ y:Int,dMod (.int y) (.int 3)=.ok (.int (y % 3)):=fun y=>bP (by decide)
 have hp:dPow (.int 10) (.int 40)=.ok (.int (10 ^ 40)):=rfl
 by_cases h:c % 8=6
 ·obtain ⟨a',_,ha⟩:=sC PyData.int [f,f - 1,10 ^ 40] (i:=c / 64 % 3) (by show -(3:Int)<=_;omega) (by show _ < (3:Int);omega)
  refine ⟨f,a',u6,u7,?_⟩
  simp only[List.map_cons,List.map_nil] at ha
  simp only[nu4,nuρ,cH,b7,bY,bW,kI,b6,List.getElem?_cons_zero,List.getElem?_cons_succ,R.bind_ok,cZ,decide_eq_true h,bX,if_true,c6,dE,d64,m3,hp,lC,aFW,jS,dA,c8,List.length_cons,List.length_nil,Nat.reduceAdd,Nat.reduceLeDiff,ha,List.set_cons_zero,List.set_cons_succ]
 ·refine ⟨f,a,u6,u7,?_⟩
  simp only[nu4,nuρ,cH,b7,bY,bW,b6,List.getElem?_cons_zero,List.getElem?_cons_succ,R.bind_ok,cZ,decide_eq_false h,bX,Bool.false_eq_true,if_false,eJ]
end
theorem aKP{l:List (Int×Int)}(hl:l≠[])(hll:l.length<=16000000){c:Int}(hc:0<=c){m:Nat}(hm:m<=2000000):∃ f a:Int,dR [.d (.int c),.d (.list (l.map prD)),.d (.int m)]=.ok (.d (.tuple [.int f,.int a])):=by
 have m1:∀ y:Int,dMod (.int y) (.int ((m:Int)+1))=.ok (.int (y % ((m:Int)+1))):=fun y=>bP (by omega)
 have m2:∀ y:Int,dMod (.int y) (.int ((m:Int)+2))=.ok (.int (y % ((m:Int)+2))):=fun y=>bP (by omega)
 have m8:dMod (.int c) (.int 8)=.ok (.int (c % 8)):=bP (by decide)
 obtain ⟨f1,a1,u1,v1,q1⟩:=aKL (c:=c) (l:=l) (m:=m) hl hll (c / 8 % ((m:Int)+2)) (c / 8 % ((m:Int)+2)+1+c / 4096 % ((m:Int)+1)) none none
 obtain ⟨f2,a2,u2,v2,q2⟩:=aKM (c:=c) (l:=l) (m:=m) f1 a1 u1 v1
 obtain ⟨f3,a3,u3,v3,q3⟩:=aKN (c:=c) (l:=l) (m:=m) f2 a2 u2 v2
 obtain ⟨f4,a4,u4,v4,q4⟩:=aKO (c:=c) (l:=l) (m:=m) f3 a3 u3 v3
 refine ⟨f4,a4,?_⟩
 unfold dR
 rw[aFE]
 have hrep:List.replicate 5 (none:Option A)=[none,none,none,none,none]:=rfl
 simp only[dC,bK,c6,dE,bY,b7,bW,b6,List.map_cons,List.map_nil,List.length_cons,List.length_nil,Nat.reduceAdd,Nat.reduceSub,hrep,List.cons_append,List.nil_append,List.getElem?_cons_zero,List.getElem?_cons_succ,R.bind_ok,d8,aF9,fQ,m1,m2,m8,List.set_cons_zero,List.set_cons_succ]
 rw[show ([some (.d (.int c)),some (.d (.list (l.map prD))),some (.d (.int m)),some (.d (.int (c / 8 % ((m:Int)+2)))),some (.d (.int (c / 8 % ((m:Int)+2)+1+c / 4096 % ((m:Int)+1)))),some (.d (.int (c % 8))),none,none]:Sg)=nuρ c l m (c / 8 % ((m:Int)+2)) (c / 8 % ((m:Int)+2)+1+c / 4096 % ((m:Int)+1)) none none from rfl,q1]
 simp only[R.bind_ok]
 rw[q2]
 simp only[R.bind_ok]
 rw[q3]
 simp only[R.bind_ok]
 rw[q4]
 simp only[R.bind_ok,nuρ,eG,dE,jR,dA,c8,kI,List.getElem?_cons_zero,List.getElem?_cons_succ,List.length_cons,List.length_nil,Nat.reduceAdd,Nat.reduceLeDiff,if_true]
def Due(l:List (Int×Int))(m:Nat)(t:Int×Int)(f a:Int):Prop:=(0<=f/\f < a/\a<=m)/\a < l.length/\l[f.toNat]? = some t/\l[a.toNat]? = some t
instance (l:List (Int×Int)) (m:Nat) (t:Int×Int) (f a:Int):Decidable (Due l m t f a):=inferInstanceAs (Decidable (_/\_))
theorem zM {rs : List Rw} {z : List Nat} {k : Nat} (h : itM rs z k = none) : ∀ n : Nat, k <= n -> itM rs z n = none
  | 0, hk => by obtain rfl : k = 0 := by omega
                exact h
  | n + 1, hk => by
    by_cases e : k = n + 1
    · rw [<- e]; exact h
    · unfold itM; rw [zM h n (by omega)]; rfl
theorem aDA(M:Mach rs sg)(S:cT sg z.cps.toList){m:Nat}(hm:(m:Int)=(rs.length:Int) * ((z.cps.toList.length:Int)+2)){l:List (Int×Int)}(O:OnL rs z.cps.toList m l)(t:Int×Int)(f a:Int) :
  hJ [.d (cC rs),.d (.str z),.d (.tuple [.str "ever",.int t.1,.int t.2,.int f,.int a])]=.ok (.d (.bool (decide (Due l m t f a)))):=by
 obtain ⟨ps,s,hp,P,W⟩:=aLT M S
 by_cases n:s∈ps
 ·rw[aFD M S hp P W n]
  have hl:l.length=m+1:=by
   rcases O.fin with h|h
   ·exact h
   ·obtain ⟨x,e,_⟩:=P.ever n l.length
    rw[h] at e;cases e
  have e:decide (nV rs z.cps.toList t.1 t.2 f a)=decide (Due l m t f a):=decide_eq_decide.mpr ⟨fun h=>?_,fun h=>?_⟩
  ·rw[e]
  ·obtain ⟨⟨h1,h2,h3⟩,h4,h5⟩:=h
   refine ⟨⟨h1,h2,by omega⟩,by omega,?_,?_⟩
   ·rw[O.it _ (by omega)];exact h4
   ·rw[O.it _ (by omega)];exact h5
  ·obtain ⟨⟨h1,h2,h3⟩,h4,h5,h6⟩:=h
   refine ⟨⟨h1,h2,by omega⟩,?_,?_⟩
   ·rw[O.it _ (by omega)] at h5;exact h5
   ·rw[O.it _ (by omega)] at h6;exact h6
 ·rw[aFC M S hp P W n (aF8 _ _ _ _)]
  have e:decide (PyData.tuple [.str "ever",.int t.1,.int t.2,.int f,.int a]=qY rs z.cps.toList ps s)=decide (Due l m t f a):=by
   rw[decide_eq_false (show ¬ Due l m t f a from fun h=>?_)]
   ·refine decide_eq_false fun h=>?_
    unfold qY at h
    rw[if_neg n] at h
    injection h with h
    injection h with _ h
    injection h with _ h
    cases h
   ·obtain ⟨⟨h1,h2,h3⟩,h4,h5,h6⟩:=h
    rw[O.it _ (by omega)] at h5 h6
    have hstep:cD rs z.cps.toList s=none:=by
     rcases P.fin with ⟨_,h⟩|⟨h,_⟩
     · exact h
     · exact absurd h n
    have hnone:itM rs z.cps.toList (ps.length+1)=none:=by
     unfold itM;rw[P.last];exact hstep
    have fl:∀ k:Nat,itM rs z.cps.toList k=some t->k < (ps++[s]).length:=fun k hk=>by
     rw[List.length_append,List.length_singleton]
     refine Nat.lt_of_not_le fun z=>?_
     rw[zM hnone k z] at hk
     cases hk
    have nd:(ps++[s]).Nodup:=by
     rw[List.nodup_append]
     exact ⟨P.nd,by simp,fun x hx y hy e=>n (by rw[List.mem_singleton.mp hy] at e;rw[<-e];exact hx)⟩
    have l1:=fl _ h5
    have l2:=fl _ h6
    have g1:=P.it _ l1
    have g2:=P.it _ l2
    rw[h5,List.getElem?_eq_getElem l1] at g1
    rw[h6,List.getElem?_eq_getElem l2] at g2
    have:=(List.getElem_inj nd).mp (Option.some.inj (g1.trans g2.symm))
    omega
  rw[e]
noncomputable def lw9:Sg->R Fw:=(aN (a8 6 (vD (e1 (d1 o0) (eA (bF 2 bC (aB (vV 0) (aB (vV 5) aS)))))))
 (aN (nK (stT [(stN 7),(stN 8)]) (eA (bF 3 dR (aB (vV 6) (aB (vV 4) (aB (vV 3) aS))))))
 (aN (a8 9 (vD (dF (aB (e2 dSub (e2 dMod (e2 dDiv (rV 6) (eC (.int 64))) (e2 bL (e1 dLen (rV 2)) (eC (.int 6)))) (eC (.int 2))) (aB (e2 dSub (e2 dMod (e2 dDiv (rV 6) (eC (.int 8))) (e2 bL (e1 dLen (rV 1)) (eC (.int 2)))) (eC (.int 1))) aS)))))
 (aN (sIf (iI (e1 asB (eCh dLe dLt (eC (.int 0)) (rV 7) (e1 dLen (rV 4)))) (e1 asB (e2 dGt (e2 dMod (rV 6) (eC (.int 5))) (eC (.int 0))))) (a8 9 (vD (e2 dIx (rV 4) (rV 7)))) sNx)
 (aN (a8 10 (vD (i6 (nR dLe dLt dLe (eC (.int 0)) (rV 7) (rV 8) (rV 3)) (e2 dLt (rV 8) (e1 dLen (rV 4))))))
 (aN (a8 10 (vD (i6 (eV 10) (i6 (e2 dEq (e2 dIx (rV 4) (rV 7)) (rV 9)) (e2 dEq (e2 dIx (rV 4) (rV 8)) (rV 9))))))
 (sIf (wY (e1 asB (eA (bF 2 fU (aB (bF 3 hJ (aB (vV 1) (aB (vV 2) (aB (vD (dF (aB (eC (.str "ever")) (aB (e2 dIx (rV 9) (eC (.int 0))) (aB (e2 dIx (rV 9) (eC (.int 1))) (aB (eV 7) (aB (eV 8) aS))))))) aS)))) (aB (vV 10) aS)))))) (bN (vD (eC (.bool false)))) sNx)))))))
theorem aFF:aAZ=(aN (nK (stT [(stN 1),(stN 2)]) (eA (bF 1 fS (aB (vV 0) aS))))
 (aN (a8 3 (vD (e2 dMul (e1 dLen (rV 1)) (e2 bL (e1 dLen (rV 2)) (eC (.int 2))))))
 (aN (a8 4 (bF 3 eX (aB (vV 1) (aB (vV 2) (aB (vV 3) aS)))))
 (aN (nH (pQ (eC (.int 24)) (eC (.int 40))) (stN 5) lw9)
 (bN (vD (eC (.bool true)))))))):=id rfl
theorem aKQ{ns:List Int}(M:Mach rs sg)(S:cT sg z.cps.toList){m:Nat}(hm:(m:Int)=(rs.length:Int) * ((z.cps.toList.length:Int)+2))(hm2:m<=2000000){l:List (Int×Int)}(O:OnL rs z.cps.toList m l)(hl:l≠[])(k:Int)(u6 u7 u8 u9 u10:Option A) :
  ∃ v6 v7 v8 v9 v10,lw9 [some (.d (dZ ns)),some (.d (cC rs)),some (.d (.str z)),some (.d (.int m)),some (.d (.list (l.map prD))),some (.d (.int k)),u6,u7,u8,u9,u10]=.ok (.nx [some (.d (dZ ns)),some (.d (cC rs)),some (.d (.str z)),some (.d (.int m)),some (.d (.list (l.map prD))),some (.d (.int k)),v6,v7,v8,v9,v10]):=by
 obtain ⟨v,hv⟩:=lH ns k
 have ab:d1 o0 (.int v)=.ok (.int (o0 v)):=rfl
 have hab:0<=o0 v:=by unfold o0;split<;>omega
 have hll:l.length<=16000000:=by have:=O.len;omega
 obtain ⟨f,a,hfa⟩:=aKP hl hll hab hm2
 generalize o0 v=c at *
 have hz:z.length<=16777216:=by rw[eW];have:=S.1;omega
 have hzl:=mT hz
 rw[eW] at hzl
 have hml:dLen (cC rs)=.ok (.int rs.length):=by show dLen (.tuple (rs.map c9))=_;rw[xL,List.length_map]
 have x1:dMod (.int (c / 64)) (.int ((z.cps.toList.length:Int)+6))=.ok (.int (c / 64 % ((z.cps.toList.length:Int)+6))):=bP (by omega)
 have x2:dMod (.int (c / 8)) (.int ((rs.length:Int)+2))=.ok (.int (c / 8 % ((rs.length:Int)+2))):=bP (by omega)
 have x3:dMod (.int c) (.int 5)=.ok (.int (c % 5)):=bP (by decide)
 obtain ⟨t,ht⟩:∃ t:Int×Int,(sIf (iI (e1 asB (eCh dLe dLt (eC (.int 0)) (rV 7) (e1 dLen (rV 4)))) (e1 asB (e2 dGt (e2 dMod (rV 6) (eC (.int 5))) (eC (.int 0))))) (a8 9 (vD (e2 dIx (rV 4) (rV 7)))) sNx) [some (.d (dZ ns)),some (.d (cC rs)),some (.d (.str z)),some (.d (.int m)),some (.d (.list (l.map prD))),some (.d (.int k)),some (.d (.int c)),some (.d (.int f)),some (.d (.int a)),some (.d (.tuple [.int (c / 64 % ((z.cps.toList.length:Int)+6) - 2),.int (c / 8 % ((rs.length:Int)+2) - 1)])),u10]=.ok (.nx [some (.d (dZ ns)),some (.d (cC rs)),some (.d (.str z)),some (.d (.int m)),some (.d (.list (l.map prD))),some (.d (.int k)),some (.d (.int c)),some (.d (.int f)),some (.d (.int a)),some (.d (prD t)),u10]):=by
  by_cases c1:0<=f
  ·by_cases c2:f < (l.length:Int)
   ·by_cases c3:0 < c % 5
    ·have hlt:f.toNat < l.length:=by omega
     have i1:dIx (.list (l.map prD)) (.int f)=.ok (prD l[f.toNat]):=jB (jT c1 (by rw[List.getElem?_map,List.getElem?_eq_getElem hlt];rfl))
     exact ⟨l[f.toNat],by simp only[cH,g7,b7,bY,rP,b6,bW,List.getElem?_cons_zero,List.getElem?_cons_succ,R.bind_ok,kK,decide_eq_true c1,bX,if_true,gQ,List.length_map,fJ,decide_eq_true c2,x3,aFX,decide_eq_true c3,c6,dE,i1,List.set_cons_zero,List.set_cons_succ]⟩
    ·exact ⟨(c / 64 % ((z.cps.toList.length:Int)+6) - 2,c / 8 % ((rs.length:Int)+2) - 1),by simp only[cH,g7,b7,bY,rP,b6,bW,List.getElem?_cons_zero,List.getElem?_cons_succ,R.bind_ok,kK,decide_eq_true c1,bX,if_true,gQ,List.length_map,fJ,decide_eq_true c2,x3,aFX,decide_eq_false c3,Bool.false_eq_true,if_false,eJ];rfl⟩
   ·exact ⟨(c / 64 % ((z.cps.toList.length:Int)+6) - 2,c / 8 % ((rs.length:Int)+2) - 1),by simp only[cH,g7,b7,bY,rP,b6,bW,List.getElem?_cons_zero,List.getElem?_cons_succ,R.bind_ok,kK,decide_eq_true c1,bX,if_true,gQ,List.length_map,fJ,decide_eq_false c2,Bool.false_eq_true,if_false,eJ];rfl⟩
  ·exact ⟨(c / 64 % ((z.cps.toList.length:Int)+6) - 2,c / 8 % ((rs.length:Int)+2) - 1),by simp only[cH,g7,b7,bY,rP,b6,bW,List.getElem?_cons_zero,List.getElem?_cons_succ,R.bind_ok,kK,decide_eq_false c1,bX,Bool.false_eq_true,if_false,eJ];rfl⟩
 have hd:∃ d1:Bool,(i6 (nR dLe dLt dLe (eC (.int 0)) (rV 7) (rV 8) (rV 3)) (e2 dLt (rV 8) (e1 dLen (rV 4)))) [some (.d (dZ ns)),some (.d (cC rs)),some (.d (.str z)),some (.d (.int m)),some (.d (.list (l.map prD))),some (.d (.int k)),some (.d (.int c)),some (.d (.int f)),some (.d (.int a)),some (.d (prD t)),u10]=.ok (.bool d1)/\(i6 (eV 10) (i6 (e2 dEq (e2 dIx (rV 4) (rV 7)) (rV 9)) (e2 dEq (e2 dIx (rV 4) (rV 8)) (rV 9)))) [some (.d (dZ ns)),some (.d (cC rs)),some (.d (.str z)),some (.d (.int m)),some (.d (.list (l.map prD))),some (.d (.int k)),some (.d (.int c)),some (.d (.int f)),some (.d (.int a)),some (.d (prD t)),some (.d (.bool d1))]=.ok (.bool (decide (Due l m t f a))):=by
  by_cases cc:(0<=f/\f < a/\a<=(m:Int))/\a < (l.length:Int)
  ·obtain ⟨⟨c1,c2,c3⟩,c4⟩:=id cc
   have l1:f.toNat < l.length:=by omega
   have l2:a.toNat < l.length:=by omega
   have i1:dIx (.list (l.map prD)) (.int f)=.ok (prD l[f.toNat]):=jB (jT c1 (by rw[List.getElem?_map,List.getElem?_eq_getElem l1];rfl))
   have i2:dIx (.list (l.map prD)) (.int a)=.ok (prD l[a.toNat]):=jB (jT (by omega) (by rw[List.getElem?_map,List.getElem?_eq_getElem l2];rfl))
   have k1:dEq (prD l[f.toNat]) (prD t)=.ok (.bool (decide (l[f.toNat]=t))):=by rw[gR (dB _) (dB _),mX]
   have k2:dEq (prD l[a.toNat]) (prD t)=.ok (.bool (decide (l[a.toNat]=t))):=by rw[gR (dB _) (dB _),mX]
   refine ⟨true,?_,?_⟩
   ·simp only[mQ,pV,b6,bW,List.getElem?_cons_zero,List.getElem?_cons_succ,R.bind_ok,kK,decide_eq_true c1,bX,if_true,fJ,decide_eq_true c2,decide_eq_true c3,bY,b7,gQ,List.length_map,decide_eq_true c4]
   ·have hD:decide (Due l m t f a)=(decide (l[f.toNat]=t) && decide (l[a.toNat]=t)):=by
     rw[<-Bool.decide_and]
     refine decide_eq_decide.mpr ?_
     unfold Due
     rw[List.getElem?_eq_getElem l1,List.getElem?_eq_getElem l2,Option.some.injEq,Option.some.injEq]
     exact ⟨fun z=>z.2.2,fun z=>⟨cc.1,cc.2,z⟩⟩
    rw[hD]
    simp only[mQ,kI,bW,List.getElem?_cons_zero,List.getElem?_cons_succ,R.bind_ok,bX,if_true,bY,i1,i2,k1,k2]
    cases decide (l[f.toNat]=t)<;>rfl
  ·have hD:decide (Due l m t f a)=false:=decide_eq_false fun z=>cc ⟨z.1,z.2.1⟩
   refine ⟨false,?_,?_⟩
   ·simp only[mQ,pV,b6,bW,List.getElem?_cons_zero,List.getElem?_cons_succ,R.bind_ok,kK,bX,fJ,bY,b7,gQ,List.length_map]
    by_cases c1:0<=f
    ·by_cases c2:f < a
     ·by_cases c3:a<=(m:Int)
      · rw [decide_eq_true c1, decide_eq_true c2, decide_eq_true c3, decide_eq_false (show ¬ a < (l.length : Int) from fun z => cc ⟨⟨c1, c2, c3⟩, z⟩)]; rfl
      · rw [decide_eq_true c1, decide_eq_true c2, decide_eq_false c3]; rfl
     ·rw[decide_eq_true c1,decide_eq_false c2];rfl
    ·rw[decide_eq_false c1];rfl
   ·rw[hD];rfl
 obtain ⟨d1,hd1,hd2⟩:=hd
 have fh:=aDA M S hm O t f a
 have ft:=aLX (decide (Due l m t f a))
 have p0:dIx (prD t) (.int 0)=.ok (.int t.1):=rfl
 have p1:dIx (prD t) (.int 1)=.ok (.int t.2):=rfl
 refine ⟨some (.d (.int c)),some (.d (.int f)),some (.d (.int a)),some (.d (prD t)),some (.d (.bool (decide (Due l m t f a)))),?_⟩
 unfold lw9
 simp only[bK,c6,dE,b7,kJ,eH,dA,c8,gZ,List.getElem?_cons_zero,List.getElem?_cons_succ,R.bind_ok,List.length_cons,List.length_nil,Nat.reduceAdd,if_true,hv,i9,ab,List.set_cons_zero,List.set_cons_succ,y7,hfa,xJ,qU,tH,mP,Option.bind_some,fX,jR,bY,bW,b6,d64,d8,hzl,hml,fQ,x1,x2,lC,Nat.reduceLeDiff]
 rw[ht]
 simp only[R.bind_ok,hd1,List.set_cons_zero,List.set_cons_succ,hd2]
 simp only[cH,tJ,b7,kJ,eH,dA,c8,gZ,dE,jR,bY,bW,kI,b6,List.getElem?_cons_zero,List.getElem?_cons_succ,R.bind_ok,p0,p1,List.length_cons,List.length_nil,Nat.reduceAdd,Nat.reduceLeDiff,if_true,fh,ft,i9,bX,Bool.not_true,Bool.false_eq_true,if_false,eJ]
end
theorem aFG:∀ ns:List Int,ns.length<=63->aA0 [.d (.list (ns.map .int))]=.ok (.d (.bool true)):=by
 intro ns hns
 rw[show PyData.list (ns.map .int)=dZ ns from rfl]
 obtain ⟨rs,z,sg,e,M,S⟩:=aH1 (ns:=ns)
 have hz:z.length<=16777216:=by rw[eW];have:=S.1;omega
 have hzl:=mT hz
 rw[eW] at hzl
 have hml:dLen (cC rs)=.ok (.int rs.length):=by show dLen (.tuple (rs.map c9))=_;rw[xL,List.length_map]
 have hmul:dMul (.int (rs.length:Int)) (.int ((z.cps.toList.length:Int)+2))=.ok (.int ((rs.length:Int) * ((z.cps.toList.length:Int)+2))):=mS (by have:=M.len2;omega) (by have:=M.len2;omega)
 obtain ⟨m,hm,hm2⟩:∃ m:Nat,(m:Int)=(rs.length:Int) * ((z.cps.toList.length:Int)+2)/\m<=2000000:=⟨rs.length * (z.cps.toList.length+2),by rw[Int.natCast_mul];rfl,by
  have:rs.length * (z.cps.toList.length+2)<=1000 * 1002:=Nat.mul_le_mul M.len2 (by have:=S.1;omega)
  omega⟩
 rw[<-hm] at hmul
 obtain ⟨l,f1,O,hl⟩:=aMZ M S hm2
 have hr:eZ 24 40=.ok ((List.range 16).map fun i:Nat=>.int (24+(i:Int))):=rfl
 obtain ⟨ρ',q1,u5,u6,u7,u8,u9,u10,rfl⟩:=lE (fs:=stN 5) (fb:=lw9) (d:=fun i:Nat=>PyData.int (24+(i:Int))) (xs:=List.range 16) (ρ:=[some (.d (dZ ns)),some (.d (cC rs)),some (.d (.str z)),some (.d (.int m)),some (.d (.list (l.map prD))),none,none,none,none,none,none])
  (fun i ρ=>∃ (u5 u6 u7 u8 u9 u10:Option A),ρ=[some (.d (dZ ns)),some (.d (cC rs)),some (.d (.str z)),some (.d (.int m)),some (.d (.list (l.map prD))),u5,u6,u7,u8,u9,u10]) ⟨none,none,none,none,none,none,rfl⟩
  (fun i k ρ hk hρ=>by
   obtain ⟨u5,u6,u7,u8,u9,u10,rfl⟩:=hρ
   obtain ⟨v6,v7,v8,v9,v10,q⟩:=aKQ (ns:=ns) M S hm hm2 O hl (24+(k:Int)) u6 u7 u8 u9 u10
   exact ⟨_,_,rfl,.inl q,_,_,_,_,_,_,rfl⟩)
 unfold aA0
 rw[aFF]
 have hrep:List.replicate 10 (none:Option A)=[none,none,none,none,none,none,none,none,none,none]:=rfl
 simp only[dC,bK,y7,kJ,eH,dA,c8,gZ,List.map_cons,List.map_nil,List.length_cons,List.length_nil,Nat.reduceAdd,Nat.reduceSub,hrep,List.cons_append,List.nil_append,List.getElem?_cons_zero,List.getElem?_cons_succ,R.bind_ok,if_true,e,i9,xJ,qU,tH,mP,Option.bind_some,fX,List.set_cons_zero,List.set_cons_succ,c6,dE,bY,b7,bW,b6,hml,hzl,fQ,hmul,f1,mO,aAT,hr,q1,eG]
end Mc
namespace L2
open PySem PySem.Spec PyProof.Rows
theorem qZ{K:Frag}{C:Addr}(a:PySem.W.nsIn K cStatics "thirdparty.any"=some none)(b:PySem.W.typeIn K (.ref C)=some (.type "type"))(c:PySem.W.findIn K (.type "type") "__getattribute__"=some (some (.builtin "type.__getattribute__")))(d:PySem.W.subIn K (.type "type") (.type "type")=some true):PySem.W.readsIn K C (.type "type")=true:=by
 unfold PySem.W.readsIn
 rw[a,b,c,d]
 rfl
theorem aA7{K:Frag}{C f:Addr}{g:Value}(a:PySem.W.findIn K (.type "type") "__init__"=some (some (.builtin "type.__init__")))(b:PySem.W.specialIn K (.builtin "type.__init__") "__get__"=some (some g))(c:PySem.W.takesIn K (.builtin "type.__init__")=some false)
  (d:PySem.W.findIn K (.ref C) "__init__"=some (some (.ref f))) (e:PySem.W.typeIn K (.ref f)=some (.type "function")):PySem.W.findCls K (.ref C) (.type "type") "__init__"=some (.val (.ref f)):=by
 unfold PySem.W.findCls
 rw[a]
 simp only[Option.bind_some,b,c,d]
 rw[if_neg (by intro z;cases z),e]
 rfl
end L2
namespace Mc
open PySem L2 PyProof.Rows Fl
section
variable{P:Program}{w:World}{K:Frag}{mg:Str->Option Value}{base:Heap}{TH:Hp}
theorem sD:FnScope ["self","at"] ["self","at"] (aL (aH (top 3) 0)):=by constructor<;>first|rfl|decide +kernel
theorem sE{f W C:Addr}{fd:FuncData}(F:Fun K "__init__" "NoStrip.__init__" (aH (top 3) 0) f fd)(c:SX.ExcC K W C)(n1:PySem.W.findIn K (.ref C) "at"=some none) :
  FnOk P w K mg base CX0 1 f fd ["self","at"] (spI C ["at"]):=by
 refine F.ok sD (fun vs H Q E h=>?_) (fun cdv A outer s H vs Q E hr h=>?_)
 ·obtain ⟨e,xs,rfl,hl,_⟩:=h
  rw[List.length_cons,hl];rfl
 ·obtain ⟨e,xs,rfl,hl,he,q⟩:=h
  obtain ⟨x,rfl⟩:∃ x,xs=[x]:=Mc.bn1 (P:=fun xs=>∃ x,xs=[x]) (fun x=>⟨x,rfl⟩) xs hl
  refine ⟨_,L2.aR (aGR (pv 0) (pv 1) rfl),?_⟩
  refine ⟨_,rfl,_,rfl,e,W,C,rfl,c,n1,.inl ⟨he,fun d hd hne=>?_⟩⟩
  exact q d hd hne
def jC (K : Frag) (mg : Str -> Option Value) : Prop := ∃ W C, SX.ExcC K W C /\ mg "NoStrip" = some (.ref C) /\ PySem.W.findIn K (.ref C) "at" = some none /\
      ∃ fI fdI, Fun K "__init__" "NoStrip.__init__" (aH (top 3) 0) fI fdI /\ cS K fdI ["self", "at"] [] /\ PySem.W.findIn K (.ref C) "__init__" = some (some (.ref fI)) /\ PySem.W.typeIn K (.ref fI) = some (.type "function")
theorem tT(h:jC K mg):∃ W C,ErrAt P w K mg base "NoStrip" ["at"] W C:=by
 obtain ⟨W,C,er,m,n1,fI,fdI,FI,bI,aI,tI⟩:=h
 have I:=sE (P:=P) (w:=w) (mg:=mg) (base:=base) FI er n1
 exact ⟨W,C,er,m,fun f hf=>by rw[List.mem_singleton.mp hf];exact n1,fI,fdI,I,aI,tI,bI⟩
theorem tU:FnScope ["self","place","room"] ["self","place","room"] (aL (aH (top 12) 0)):=by constructor<;>first|rfl|decide +kernel
theorem jV{f:Addr}{fd:FuncData}(F:Fun K "__init__" "Ending.__init__" (aH (top 12) 0) f fd):FnOk P w K mg base CX0 1 f fd ["self","place","room"] (spB K ["place","room"]):=by
 refine F.ok tU (fun vs H Q E h=>?_) (fun cdv A outer s H vs Q E hr h=>?_)
 ·obtain ⟨x,C,dx,us,rfl,hl,_⟩:=h
  rw[List.length_cons,hl];rfl
 ·obtain ⟨x,C,dx,us,rfl,hl,hx,cl,na,q⟩:=h
  obtain ⟨u0,u1,rfl⟩:∃ u0 u1,us=[u0,u1]:=match us,hl with|[u0,u1],_=>⟨u0,u1,rfl⟩
  refine ⟨_,L2.aE (mC (pv 0) (pv 1) rfl) (L2.aR (mC (pv 0) (pv 2) rfl)),?_⟩
  refine ⟨_,rfl,_,rfl,x,C,dx,_,rfl,hx,cl,na _ (by decide),(show (0:Nat) < 1000 by decide),?_⟩
  refine ⟨_,rfl,_,rfl,x,C,dx,_,rfl,aW,cl,na _ (by decide),(show (1:Nat) < 1000 by decide),?_⟩
  rw[L2.gW];exact q
theorem uW:FnScope ["self","place","room","borders"] ["self","place","room","borders"] (aL (aH (top 13) 0)):=by constructor<;>first|rfl|decide +kernel
theorem uX{f C CE fE:Addr}{fd fdE:FuncData}(F:Fun K "__init__" "LetBy.__init__" (aH (top 13) 0) f fd)(FE:FnOk P w K mg base CX0 1 fE fdE ["self","place","room"] (spB K ["place","room"]))(bE:cS K fdE ["self","place","room"] [])(cm:ClsM K CE "__init__" fE)(mE:mg "Ending"=some (.ref CE))(cl:Cls K C)(na:∀ f∈(["place","room","borders"]:List Str),cX K C f):FnOk P w K mg base CX0 2 f fd ["self","place","room","borders"] (spO C ["place","room","borders"]):=by
 refine F.ok uW (fun vs H Q E h=>?_) (fun cdv A outer s H vs Q E hr h=>?_)
 ·obtain ⟨x,dx,us,rfl,hl,_⟩:=h
  rw[List.length_cons,hl];rfl
 ·obtain ⟨x,dx,us,rfl,hl,hx,q⟩:=h
  obtain ⟨u0,u1,u2,rfl⟩:∃ u0 u1 u2,us=[u0,u1,u2]:=match us,hl with|[u0,u1,u2],_=>⟨u0,u1,u2,rfl⟩
  refine ⟨_,L2.aE (L2.eO (tK (jF (v:=.ref CE) rfl mE rfl) cm FE hr bE .nil vI (aP (pv 0) (aP (pv 1) (aP (pv 2) aX))))) (L2.aR (mC (pv 0) (pv 3) rfl)),?_⟩
  refine ⟨rfl,_,rfl,_,rfl,_,rfl,x,C,dx,[u0,u1],rfl,rfl,hx,cl,fun f hf=>na f (by simp only[List.mem_cons,List.not_mem_nil,or_false] at hf ⊢;rcases hf with h|h<;>simp[h]),?_⟩
  refine ⟨_,rfl,_,rfl,x,C,dx,_,rfl,aW,cl,na _ (by decide),(show (2:Nat) < 1000 by decide),?_⟩
  rw[L2.gW];exact q
def l0(K:Frag)(mg:Str->Option Value):Prop:=∃ CE fE fdE C fI fdI,mg "Ending"=some (.ref CE)/\ClsM K CE "__init__" fE/\Fun K "__init__" "Ending.__init__" (aH (top 12) 0) fE fdE/\cS K fdE ["self","place","room"] []/\mg "LetBy"=some (.ref C)/\Cls K C/\(∀ f∈(["place","room","borders"]:List Str),cX K C f)/\Mk K C fI/\Fun K "__init__" "LetBy.__init__" (aH (top 13) 0) fI fdI/\cS K fdI ["self","place","room","borders"] []
theorem yH(h:l0 K mg):∃ C,MkAt P w K mg base 2 "LetBy" ["place","room","borders"] C:=by
 obtain ⟨CE,fE,fdE,C,fI,fdI,m1,cm,FE,bE,m2,cl,na,M,FI,bI⟩:=h
 exact ⟨C,m2,fI,fdI,M,uX FI (jV FE) bE cm m1 cl na,bI⟩
theorem sG:FnScope ["self","place","room","borders"] ["self","place","room","borders"] (aL (aH (top 14) 0)):=by constructor<;>first|rfl|decide +kernel
theorem sH{f C CE fE:Addr}{fd fdE:FuncData}(F:Fun K "__init__" "ShutOut.__init__" (aH (top 14) 0) f fd)(FE:FnOk P w K mg base CX0 1 fE fdE ["self","place","room"] (spB K ["place","room"]))(bE:cS K fdE ["self","place","room"] [])(cm:ClsM K CE "__init__" fE)(mE:mg "Ending"=some (.ref CE))(cl:Cls K C)(na:∀ f∈(["place","room","borders"]:List Str),cX K C f):FnOk P w K mg base CX0 2 f fd ["self","place","room","borders"] (spO C ["place","room","borders"]):=by
 refine F.ok sG (fun vs H Q E h=>?_) (fun cdv A outer s H vs Q E hr h=>?_)
 ·obtain ⟨x,dx,us,rfl,hl,_⟩:=h
  rw[List.length_cons,hl];rfl
 ·obtain ⟨x,dx,us,rfl,hl,hx,q⟩:=h
  obtain ⟨u0,u1,u2,rfl⟩:∃ u0 u1 u2,us=[u0,u1,u2]:=match us,hl with|[u0,u1,u2],_=>⟨u0,u1,u2,rfl⟩
  refine ⟨_,L2.aE (L2.eO (tK (jF (v:=.ref CE) rfl mE rfl) cm FE hr bE .nil vI (aP (pv 0) (aP (pv 1) (aP (pv 2) aX))))) (L2.aR (mC (pv 0) (pv 3) rfl)),?_⟩
  refine ⟨rfl,_,rfl,_,rfl,_,rfl,x,C,dx,[u0,u1],rfl,rfl,hx,cl,fun f hf=>na f (by simp only[List.mem_cons,List.not_mem_nil,or_false] at hf ⊢;rcases hf with h|h<;>simp[h]),?_⟩
  refine ⟨_,rfl,_,rfl,x,C,dx,_,rfl,aW,cl,na _ (by decide),(show (2:Nat) < 1000 by decide),?_⟩
  rw[L2.gW];exact q
def j1(K:Frag)(mg:Str->Option Value):Prop:=∃ CE fE fdE C fI fdI,mg "Ending"=some (.ref CE)/\ClsM K CE "__init__" fE/\Fun K "__init__" "Ending.__init__" (aH (top 12) 0) fE fdE/\cS K fdE ["self","place","room"] []/\mg "ShutOut"=some (.ref C)/\Cls K C/\(∀ f∈(["place","room","borders"]:List Str),cX K C f)/\Mk K C fI/\Fun K "__init__" "ShutOut.__init__" (aH (top 14) 0) fI fdI/\cS K fdI ["self","place","room","borders"] []
theorem uY(h:j1 K mg):∃ C,MkAt P w K mg base 2 "ShutOut" ["place","room","borders"] C:=by
 obtain ⟨CE,fE,fdE,C,fI,fdI,m1,cm,FE,bE,m2,cl,na,M,FI,bI⟩:=h
 exact ⟨C,m2,fI,fdI,M,sH FI (jV FE) bE cm m1 cl na,bI⟩
theorem sI:FnScope ["self","place","room","first","again"] ["self","place","room","first","again"] (aL (aH (top 15) 0)):=by constructor<;>first|rfl|decide +kernel
theorem sJ{f C CE fE:Addr}{fd fdE:FuncData}(F:Fun K "__init__" "ForEver.__init__" (aH (top 15) 0) f fd)(FE:FnOk P w K mg base CX0 1 fE fdE ["self","place","room"] (spB K ["place","room"]))(bE:cS K fdE ["self","place","room"] [])(cm:ClsM K CE "__init__" fE)(mE:mg "Ending"=some (.ref CE))(cl:Cls K C)(na:∀ f∈(["place","room","first","again"]:List Str),cX K C f):FnOk P w K mg base CX0 2 f fd ["self","place","room","first","again"] (spO C ["place","room","first","again"]):=by
 refine F.ok sI (fun vs H Q E h=>?_) (fun cdv A outer s H vs Q E hr h=>?_)
 ·obtain ⟨x,dx,us,rfl,hl,_⟩:=h
  rw[List.length_cons,hl];rfl
 ·obtain ⟨x,dx,us,rfl,hl,hx,q⟩:=h
  obtain ⟨u0,u1,u2,u3,rfl⟩:∃ u0 u1 u2 u3,us=[u0,u1,u2,u3]:=match us,hl with|[u0,u1,u2,u3],_=>⟨u0,u1,u2,u3,rfl⟩
  refine ⟨_,L2.aE (L2.eO (tK (jF (v:=.ref CE) rfl mE rfl) cm FE hr bE .nil vI (aP (pv 0) (aP (pv 1) (aP (pv 2) aX))))) (L2.aE (mC (pv 0) (pv 3) rfl) (L2.aR (mC (pv 0) (pv 4) rfl))),?_⟩
  refine ⟨rfl,_,rfl,_,rfl,_,rfl,x,C,dx,[u0,u1],rfl,rfl,hx,cl,fun f hf=>na f (by simp only[List.mem_cons,List.not_mem_nil,or_false] at hf ⊢;rcases hf with h|h<;>simp[h]),?_⟩
  refine ⟨_,rfl,_,rfl,x,C,dx,_,rfl,aW,cl,na _ (by decide),(show (2:Nat) < 1000 by decide),?_⟩
  refine ⟨_,rfl,_,rfl,x,C,dx,_,rfl,aW,cl,na _ (by decide),(show (3:Nat) < 1000 by decide),?_⟩
  rw[L2.gW,L2.gW];exact q
def j2(K:Frag)(mg:Str->Option Value):Prop:=∃ CE fE fdE C fI fdI,mg "Ending"=some (.ref CE)/\ClsM K CE "__init__" fE/\Fun K "__init__" "Ending.__init__" (aH (top 12) 0) fE fdE/\cS K fdE ["self","place","room"] []/\mg "ForEver"=some (.ref C)/\Cls K C/\(∀ f∈(["place","room","first","again"]:List Str),cX K C f)/\Mk K C fI/\Fun K "__init__" "ForEver.__init__" (aH (top 15) 0) fI fdI/\cS K fdI ["self","place","room","first","again"] []
theorem uZ(h:j2 K mg):∃ C,MkAt P w K mg base 2 "ForEver" ["place","room","first","again"] C:=by
 obtain ⟨CE,fE,fdE,C,fI,fdI,m1,cm,FE,bE,m2,cl,na,M,FI,bI⟩:=h
 exact ⟨C,m2,fI,fdI,M,sJ FI (jV FE) bE cm m1 cl na,bI⟩
def jD(K:Frag)(mg:Str->Option Value):Prop:=∃ C f fd,mg "LetBy"=some (.ref C)/\Cls K C/\Meth K C "stops" f/\Fun K "stops" "LetBy.stops" (aH (top 13) 2) f fd/\cS K fd ["self"] []
def jE(K:Frag)(mg:Str->Option Value):Prop:=∃ C f fd,mg "LetBy"=some (.ref C)/\Cls K C/\Meth K C "paper" f/\Fun K "paper" "LetBy.paper" (aH (top 13) 3) f fd/\cS K fd ["self"] []
def hZ(K:Frag)(mg:Str->Option Value):Prop:=∃ C f fd,mg "ShutOut"=some (.ref C)/\Cls K C/\Meth K C "stops" f/\Fun K "stops" "ShutOut.stops" (aH (top 14) 2) f fd/\cS K fd ["self"] []
def h7(K:Frag)(mg:Str->Option Value):Prop:=∃ C f fd,mg "ShutOut"=some (.ref C)/\Cls K C/\Meth K C "paper" f/\Fun K "paper" "ShutOut.paper" (aH (top 14) 3) f fd/\cS K fd ["self"] []
def h8(K:Frag)(mg:Str->Option Value):Prop:=∃ C f fd,mg "ForEver"=some (.ref C)/\Cls K C/\Meth K C "stops" f/\Fun K "stops" "ForEver.stops" (aH (top 15) 2) f fd/\cS K fd ["self"] []
def iA(K:Frag)(mg:Str->Option Value):Prop:=∃ C f fd,mg "ForEver"=some (.ref C)/\Cls K C/\Meth K C "paper" f/\Fun K "paper" "ForEver.paper" (aH (top 15) 3) f fd/\cS K fd ["self"] []
theorem aH3(T:Txt w K mg)(Er_NoStrip:jC K mg)(Ob_LetBy:l0 K mg)(Ob_ShutOut:j1 K mg)(Ob_ForEver:j2 K mg)(fo_first:f9 K mg ["ForEver"] "first")(fo_again:f9 K mg ["ForEver"] "again")(fo_borders:f9 K mg ["LetBy","ShutOut"] "borders")(fo_room:f9 K mg ["LetBy","ShutOut","ForEver"] "room")(fo_place:f9 K mg ["LetBy","ShutOut","ForEver"] "place")(Mt_LetBy_stops:jD K mg)(Mt_ShutOut_stops:hZ K mg)(Mt_ForEver_stops:h8 K mg)(Mt_LetBy_paper:jE K mg)(Mt_ShutOut_paper:h7 K mg)(Mt_ForEver_paper:iA K mg)(D7:DefAt K mg "signs_of" (top 7) ["machine"])(D8:DefAt K mg "checked_by" (top 8) ["signs","strip"])(D9:DefAt K mg "checked" (top 9) ["machine","strip"])(D16:DefAt K mg "cell_at" (top 16) ["machine","strip","stand"])(D17:DefAt K mg "path" (top 17) ["machine","strip"])(D18:DefAt K mg "borders_of" (top 18) ["stands","strip"])(D19:DefAt K mg "walk" (top 19) ["machine","strip"])(D21:DefAt K mg "stand_at" (top 21) ["stands","ending","number"])(D22:DefAt K mg "goes_round" (top 22) ["machine","strip","ending","paper"])(D23:DefAt K mg "holds" (top 23) ["machine","strip","paper"])(D25:DefAt K mg "_law_truth" (top 25) ["_law_found","_law_due"])(D26:DefAt K mg "_law_cell" (top 26) ["_law_script","_law_k"])(D27:DefAt K mg "_law_end" (top 27) ["_law_number","_law_rooms"])(D28:DefAt K mg "_law_digit_row" (top 28) ["_law_number","_law_rooms","_law_signs"])(D29:DefAt K mg "_law_mixed_row" (top 29) ["_law_number","_law_rooms","_law_signs"])(D30:DefAt K mg "_law_machine" (top 30) ["_law_script","_law_at","_law_rooms","_law_signs"])(D31:DefAt K mg "_law_strip" (top 31) ["_law_script","_law_at","_law_size","_law_signs"])(D32:DefAt K mg "_law_step" (top 32) ["_law_machine_here","_law_strip_here","_law_stand"])(D34:DefAt K mg "_law_drawn" (top 34) ["_law_script"])(D35:DefAt K mg "_law_on" (top 35) ["_law_machine_here","_law_strip_here","_law_most"])(D36:DefAt K mg "_law_numbers" (top 36) ["_law_cell_here","_law_stands_here","_law_most"]){fL:Addr}{fdL:FuncData}(FL:Fun K "law" "law" (top 37) fL fdL):FnOk P w K mg base (CXe P w) 8 fL fdL ["_law_script"] (vU K TH):=by
 obtain ⟨W_NoStrip,C_NoStrip,er_NoStrip⟩:=tT (P:=P) (w:=w) (base:=base) Er_NoStrip
 obtain ⟨Co_LetBy,mk_LetBy⟩:=yH (P:=P) (w:=w) (base:=base) Ob_LetBy
 obtain ⟨Co_ShutOut,mk_ShutOut⟩:=uY (P:=P) (w:=w) (base:=base) Ob_ShutOut
 obtain ⟨Co_ForEver,mk_ForEver⟩:=uZ (P:=P) (w:=w) (base:=base) Ob_ForEver
 have mt_stops:∀ p∈[(("LetBy":Str),gC),(("ShutOut":Str),fB),(("ForEver":Str),fD)],tM P w K mg base TH 1 p.1 "stops" p.2:=by
  intro p hp
  simp only[List.mem_cons,List.not_mem_nil,or_false] at hp
  rcases hp with rfl|rfl|rfl
  ·obtain ⟨C,f,fd,h1,h2,h3,h4,h5⟩:=Mt_LetBy_stops
   exact ⟨C,f,fd,h1,h2,h3,rS T h4 ,h5⟩
  ·obtain ⟨C,f,fd,h1,h2,h3,h4,h5⟩:=Mt_ShutOut_stops
   exact ⟨C,f,fd,h1,h2,h3,pY T h4 ,h5⟩
  ·obtain ⟨C,f,fd,h1,h2,h3,h4,h5⟩:=Mt_ForEver_stops
   exact ⟨C,f,fd,h1,h2,h3,p5 T h4 ,h5⟩
 have mt_paper:∀ p∈[(("LetBy":Str),gD),(("ShutOut":Str),fC),(("ForEver":Str),fF)],tM P w K mg base TH 1 p.1 "paper" p.2:=by
  intro p hp
  simp only[List.mem_cons,List.not_mem_nil,or_false] at hp
  rcases hp with rfl|rfl|rfl
  ·obtain ⟨C,f,fd,h1,h2,h3,h4,h5⟩:=Mt_LetBy_paper
   exact ⟨C,f,fd,h1,h2,h3,rT T h4 fo_borders,h5⟩
  ·obtain ⟨C,f,fd,h1,h2,h3,h4,h5⟩:=Mt_ShutOut_paper
   exact ⟨C,f,fd,h1,h2,h3,pZ T h4 fo_borders,h5⟩
  ·obtain ⟨C,f,fd,h1,h2,h3,h4,h5⟩:=Mt_ForEver_paper
   exact ⟨C,f,fd,h1,h2,h3,p6 T h4 fo_again fo_first fo_room fo_place,h5⟩
 have c_signs_of:=@yE P w K mg base TH T D7
 have c_checked_by:=uQ (P:=P) (w:=w) (base:=base) (TH:=TH) T D8 er_NoStrip
 have c_checked:=@aA1 P w K mg base TH T D9 c_checked_by c_signs_of
 have c_cell_at:=@aA2 P w K mg base TH T D16
 have c_path:=@aHT P w K mg base TH T D17 c_checked c_cell_at
 have c_borders_of:=@uR P w K mg base TH T D18
 have c_walk:=aHU (P:=P) (w:=w) (base:=base) (TH:=TH) T D19 c_path c_cell_at c_borders_of mk_LetBy mk_ShutOut mk_ForEver
 have c_stand_at:=@yF P w K mg base TH T D21 fo_first fo_again
 have c_goes_round:=@uS P w K mg base TH T D22 c_path c_stand_at
 have c_holds:=@aE5 P w K mg base TH T D23 c_walk c_goes_round mt_stops mt_paper
 have c__law_truth:=@uT P w K mg base TH T D25
 have c__law_cell:=@xX P w K mg base TH T D26
 have c__law_end:=@yG P w K mg base TH T D27
 have c__law_digit_row:=@p7 P w K mg base TH T D28
 have c__law_mixed_row:=@p8 P w K mg base TH T D29 c__law_end
 have c__law_machine:=@rY P w K mg base TH T D30 c__law_digit_row c__law_mixed_row c__law_cell
 have c__law_strip:=@uU P w K mg base TH T D31 c__law_cell
 have c__law_step:=@xY P w K mg base TH T D32
 have c__law_drawn:=@uV P w K mg base TH T D34 c__law_cell c__law_strip c__law_machine
 have c__law_on:=@aA3 P w K mg base TH T D35 c__law_step
 have c__law_numbers:=@sA P w K mg base TH T D36
 exact aJO (aJ7 (P:=P) (w:=w) (base:=base) (TH:=TH) T FL c__law_drawn c__law_on c__law_cell c__law_numbers c__law_truth c_holds) aFG
end
section
variable{w:World}{K:Frag}{h:Heap}{mg:Str->Option Value}
theorem aKR(X:K.In h)(G:h.Ns mainGlobals mg){a_BEGIN:Addr}{t_SIGNS:Nat}{a_STOPS:Addr}(z_abs:PySem.W.nsIn K mainGlobals "abs"=some none)(z_bool:PySem.W.nsIn K mainGlobals "bool"=some none)(z_enumerate:PySem.W.nsIn K mainGlobals "enumerate"=some none)(z_int:PySem.W.nsIn K mainGlobals "int"=some none)(z_isinstance:PySem.W.nsIn K mainGlobals "isinstance"=some none)(z_len:PySem.W.nsIn K mainGlobals "len"=some none)(z_min:PySem.W.nsIn K mainGlobals "min"=some none)(z_range:PySem.W.nsIn K mainGlobals "range"=some none)(z_str:PySem.W.nsIn K mainGlobals "str"=some none)(z_tuple:PySem.W.nsIn K mainGlobals "tuple"=some none)(z_zip:PySem.W.nsIn K mainGlobals "zip"=some none)(s_BEGIN:PySem.W.nsIn K mainGlobals "BEGIN"=some (some (.ref a_BEGIN)))(m_BEGIN:m5 K a_BEGIN [.int 0,.int 0])(s_SIGNS:PySem.W.nsIn K mainGlobals "SIGNS"=some (some (.str "abc" t_SIGNS)))(s_STOPS:PySem.W.nsIn K mainGlobals "STOPS"=some (some (.ref a_STOPS)))(m_STOPS:m5 K a_STOPS [.str "by",.str "out"]):Txt w K mg:=⟨PySem.W.mg_none_of X G z_abs,PySem.W.mg_none_of X G z_bool,PySem.W.mg_none_of X G z_enumerate,PySem.W.mg_none_of X G z_int,PySem.W.mg_none_of X G z_isinstance,PySem.W.mg_none_of X G z_len,PySem.W.mg_none_of X G z_min,PySem.W.mg_none_of X G z_range,PySem.W.mg_none_of X G z_str,PySem.W.mg_none_of X G z_tuple,PySem.W.mg_none_of X G z_zip,⟨a_BEGIN,PySem.W.mg_of X G s_BEGIN,m_BEGIN⟩,⟨t_SIGNS,PySem.W.mg_of X G s_SIGNS⟩,⟨a_STOPS,PySem.W.mg_of X G s_STOPS,m_STOPS⟩⟩
theorem vA(X:K.In h)(G:h.Ns mainGlobals mg){W C fI NC:Addr}{bsC subC:List Value}{nmC qC:Str}{abC:Bool}{snC:List Str}{colC:Option Bool}{ddC:Option Addr}{c0 c1 c2 c3 c5:Option Value}
  {oc:Value} {od an:Option Addr} {osl:Array (Option Value)} {kV doc pm cdv ct:Value}
  (m:PySem.W.nsIn K mainGlobals "NoStrip"=some (some (.ref C)))
  (e1:K.lookup C=some (excClassObj nmC qC C NC bsC (.ref W::SX.hV) true snC subC abC colC ddC c0 c1 c2 c3 c5 "ValueError.__new__"))
  (e2:PySem.W.findIn K (.ref C) "__setattr__"=some (some (.builtin "object.__setattr__"))) (e3:PySem.W.findIn K (.ref C) "__getattribute__"=some (some (.builtin "BaseException.__getattribute__"))) (e4:PySem.W.findIn K (.ref C) "__getattr__"=some none) (e5:PySem.W.findIn K (.ref C) "__class__"=some (some (.builtin "object.__class__")))
  (e6:PySem.W.specialIn K (.builtin "object.__class__") "__get__"=some (some (.builtin "getset_descriptor.__get__"))) (e7:PySem.W.takesIn K (.builtin "object.__class__")=some true) (e8:PySem.W.keepIn K (.ref C)=true)
  (p1:PySem.W.findIn K (.ref C) "at"=some none)
  (i1:PySem.W.findIn K (.ref C) "__init__"=some (some (.ref fI))) (i2:K.lookup fI=some ⟨oc,od,.func (PySem.W.fnOf "__init__" "NoStrip.__init__" (cW (aH (top 3) 0)) (b5 (aH (top 3) 0)) (aL (aH (top 3) 0)) .none kV doc pm an cdv ct),osl⟩) (i3:PySem.W.codeIn K cdv "NoStrip.__init__"=true) (i4:PySem.W.keepIn K (.ref fI)=true) (i5:PySem.W.typeIn K (.ref fI)=some (.type "function")):jC K mg:=by
 have FI:=eP (st:=aH (top 3) 0) i2 i3 i4
 exact ⟨W,C,aGS e1 e2 e3 e4 e5 e6 e7 e8,PySem.W.mg_of X G m,p1,fI,_,FI,FI.binds (ps:=["self","at"]) (fun _ _ _ _ _ _=>Mc.bn2 fun _ _=>rfl),i1,i5⟩
theorem yI(X:K.In h)(G:h.Ns mainGlobals mg){CE C:Addr}{g:Value}{fe_:Addr}{e_oc:Value}{e_od e_an:Option Addr}{e_osl:Array (Option Value)}{e_kV e_doc e_pm e_cdv e_ct:Value}{fi_:Addr}{i_oc:Value}{i_od i_an:Option Addr}{i_osl:Array (Option Value)}{i_kV i_doc i_pm i_cdv i_ct:Value}(m1:PySem.W.nsIn K mainGlobals "Ending"=some (some (.ref CE)))(s1:PySem.W.specialIn K (.ref CE) "__getattribute__"=some (some (.builtin "type.__getattribute__")))
  (r1:PySem.W.nsIn K cStatics "thirdparty.any"=some none) (r2:PySem.W.typeIn K (.ref CE)=some (.type "type")) (r3:PySem.W.findIn K (.type "type") "__getattribute__"=some (some (.builtin "type.__getattribute__"))) (r4:PySem.W.subIn K (.type "type") (.type "type")=some true)
  (q1:PySem.W.findIn K (.type "type") "__init__"=some (some (.builtin "type.__init__"))) (q2:PySem.W.specialIn K (.builtin "type.__init__") "__get__"=some (some g)) (q3:PySem.W.takesIn K (.builtin "type.__init__")=some false) (q4:PySem.W.findIn K (.ref CE) "__init__"=some (some (.ref fe_))) (q5:PySem.W.typeIn K (.ref fe_)=some (.type "function"))
  (e_l:K.lookup fe_=some ⟨e_oc,e_od,.func (PySem.W.fnOf "__init__" "Ending.__init__" (cW (aH (top 12) 0)) (b5 (aH (top 12) 0)) (aL (aH (top 12) 0)) .none e_kV e_doc e_pm e_an e_cdv e_ct),e_osl⟩) (e_c:PySem.W.codeIn K e_cdv "Ending.__init__"=true) (e_k:PySem.W.keepIn K (.ref fe_)=true)
  (m2:PySem.W.nsIn K mainGlobals "LetBy"=some (some (.ref C))) (p1:PySem.W.plainGet K C Str.empty=true) (p2:PySem.W.hasDictIn K C=true) (p3:PySem.W.plainOver K C=true) (p4:PySem.W.findIn K (.ref C) "__setattr__"=some (some (.builtin "object.__setattr__")))
  (n0:PySem.W.findIn K (.ref C) "place"=some none) (n1:PySem.W.findIn K (.ref C) "room"=some none) (n2:PySem.W.findIn K (.ref C) "borders"=some none) (k1:PySem.W.makesIn K C=true) (k2:PySem.W.findIn K (.ref C) "__init__"=some (some (.ref fi_))) (k3:PySem.W.isFn K (.ref fi_)=true) (k4:PySem.W.keepIn K (.ref C)=true)
  (i_l:K.lookup fi_=some ⟨i_oc,i_od,.func (PySem.W.fnOf "__init__" "LetBy.__init__" (cW (aH (top 13) 0)) (b5 (aH (top 13) 0)) (aL (aH (top 13) 0)) .none i_kV i_doc i_pm i_an i_cdv i_ct),i_osl⟩) (i_c:PySem.W.codeIn K i_cdv "LetBy.__init__"=true) (i_k:PySem.W.keepIn K (.ref fi_)=true):l0 K mg:=by
 have FE:=eP (st:=(aH (top 12) 0)) e_l e_c e_k
 have FI:=eP (st:=(aH (top 13) 0)) i_l i_c i_k
 exact ⟨CE,fe_,_,C,fi_,_,PySem.W.mg_of X G m1,⟨s1,qZ r1 r2 r3 r4,aA7 q1 q2 q3 q4 q5,e_k⟩,FE,FE.binds (ps:=["self","place","room"]) (fun _ _ _ _ _ _=>Mc.bn3 fun _ _ _=>rfl),PySem.W.mg_of X G m2,⟨p1,p2,p3,p4⟩,fun f hf=>by
  simp only[List.mem_cons,List.not_mem_nil,or_false] at hf
  rcases hf with rfl|rfl|rfl
  · exact n0
  · exact n1
  · exact n2, ⟨k1, k2, k3, k4⟩, FI, FI.binds (ps := ["self", "place", "room", "borders"]) (fun _ _ _ _ _ _ => Mc.bn4 fun _ _ _ _ => rfl)⟩
theorem vB(X:K.In h)(G:h.Ns mainGlobals mg){CE C:Addr}{g:Value}{fe_:Addr}{e_oc:Value}{e_od e_an:Option Addr}{e_osl:Array (Option Value)}{e_kV e_doc e_pm e_cdv e_ct:Value}{fi_:Addr}{i_oc:Value}{i_od i_an:Option Addr}{i_osl:Array (Option Value)}{i_kV i_doc i_pm i_cdv i_ct:Value}(m1:PySem.W.nsIn K mainGlobals "Ending"=some (some (.ref CE)))(s1:PySem.W.specialIn K (.ref CE) "__getattribute__"=some (some (.builtin "type.__getattribute__")))
  (r1:PySem.W.nsIn K cStatics "thirdparty.any"=some none) (r2:PySem.W.typeIn K (.ref CE)=some (.type "type")) (r3:PySem.W.findIn K (.type "type") "__getattribute__"=some (some (.builtin "type.__getattribute__"))) (r4:PySem.W.subIn K (.type "type") (.type "type")=some true)
  (q1:PySem.W.findIn K (.type "type") "__init__"=some (some (.builtin "type.__init__"))) (q2:PySem.W.specialIn K (.builtin "type.__init__") "__get__"=some (some g)) (q3:PySem.W.takesIn K (.builtin "type.__init__")=some false) (q4:PySem.W.findIn K (.ref CE) "__init__"=some (some (.ref fe_))) (q5:PySem.W.typeIn K (.ref fe_)=some (.type "function"))
  (e_l:K.lookup fe_=some ⟨e_oc,e_od,.func (PySem.W.fnOf "__init__" "Ending.__init__" (cW (aH (top 12) 0)) (b5 (aH (top 12) 0)) (aL (aH (top 12) 0)) .none e_kV e_doc e_pm e_an e_cdv e_ct),e_osl⟩) (e_c:PySem.W.codeIn K e_cdv "Ending.__init__"=true) (e_k:PySem.W.keepIn K (.ref fe_)=true)
  (m2:PySem.W.nsIn K mainGlobals "ShutOut"=some (some (.ref C))) (p1:PySem.W.plainGet K C Str.empty=true) (p2:PySem.W.hasDictIn K C=true) (p3:PySem.W.plainOver K C=true) (p4:PySem.W.findIn K (.ref C) "__setattr__"=some (some (.builtin "object.__setattr__")))
  (n0:PySem.W.findIn K (.ref C) "place"=some none) (n1:PySem.W.findIn K (.ref C) "room"=some none) (n2:PySem.W.findIn K (.ref C) "borders"=some none) (k1:PySem.W.makesIn K C=true) (k2:PySem.W.findIn K (.ref C) "__init__"=some (some (.ref fi_))) (k3:PySem.W.isFn K (.ref fi_)=true) (k4:PySem.W.keepIn K (.ref C)=true)
  (i_l:K.lookup fi_=some ⟨i_oc,i_od,.func (PySem.W.fnOf "__init__" "ShutOut.__init__" (cW (aH (top 14) 0)) (b5 (aH (top 14) 0)) (aL (aH (top 14) 0)) .none i_kV i_doc i_pm i_an i_cdv i_ct),i_osl⟩) (i_c:PySem.W.codeIn K i_cdv "ShutOut.__init__"=true) (i_k:PySem.W.keepIn K (.ref fi_)=true):j1 K mg:=by
 have FE:=eP (st:=(aH (top 12) 0)) e_l e_c e_k
 have FI:=eP (st:=(aH (top 14) 0)) i_l i_c i_k
 exact ⟨CE,fe_,_,C,fi_,_,PySem.W.mg_of X G m1,⟨s1,qZ r1 r2 r3 r4,aA7 q1 q2 q3 q4 q5,e_k⟩,FE,FE.binds (ps:=["self","place","room"]) (fun _ _ _ _ _ _=>Mc.bn3 fun _ _ _=>rfl),PySem.W.mg_of X G m2,⟨p1,p2,p3,p4⟩,fun f hf=>by
  simp only[List.mem_cons,List.not_mem_nil,or_false] at hf
  rcases hf with rfl|rfl|rfl
  · exact n0
  · exact n1
  · exact n2, ⟨k1, k2, k3, k4⟩, FI, FI.binds (ps := ["self", "place", "room", "borders"]) (fun _ _ _ _ _ _ => Mc.bn4 fun _ _ _ _ => rfl)⟩
theorem vC(X:K.In h)(G:h.Ns mainGlobals mg){CE C:Addr}{g:Value}{fe_:Addr}{e_oc:Value}{e_od e_an:Option Addr}{e_osl:Array (Option Value)}{e_kV e_doc e_pm e_cdv e_ct:Value}{fi_:Addr}{i_oc:Value}{i_od i_an:Option Addr}{i_osl:Array (Option Value)}{i_kV i_doc i_pm i_cdv i_ct:Value}(m1:PySem.W.nsIn K mainGlobals "Ending"=some (some (.ref CE)))(s1:PySem.W.specialIn K (.ref CE) "__getattribute__"=some (some (.builtin "type.__getattribute__")))
  (r1:PySem.W.nsIn K cStatics "thirdparty.any"=some none) (r2:PySem.W.typeIn K (.ref CE)=some (.type "type")) (r3:PySem.W.findIn K (.type "type") "__getattribute__"=some (some (.builtin "type.__getattribute__"))) (r4:PySem.W.subIn K (.type "type") (.type "type")=some true)
  (q1:PySem.W.findIn K (.type "type") "__init__"=some (some (.builtin "type.__init__"))) (q2:PySem.W.specialIn K (.builtin "type.__init__") "__get__"=some (some g)) (q3:PySem.W.takesIn K (.builtin "type.__init__")=some false) (q4:PySem.W.findIn K (.ref CE) "__init__"=some (some (.ref fe_))) (q5:PySem.W.typeIn K (.ref fe_)=some (.type "function"))
  (e_l:K.lookup fe_=some ⟨e_oc,e_od,.func (PySem.W.fnOf "__init__" "Ending.__init__" (cW (aH (top 12) 0)) (b5 (aH (top 12) 0)) (aL (aH (top 12) 0)) .none e_kV e_doc e_pm e_an e_cdv e_ct),e_osl⟩) (e_c:PySem.W.codeIn K e_cdv "Ending.__init__"=true) (e_k:PySem.W.keepIn K (.ref fe_)=true)
  (m2:PySem.W.nsIn K mainGlobals "ForEver"=some (some (.ref C))) (p1:PySem.W.plainGet K C Str.empty=true) (p2:PySem.W.hasDictIn K C=true) (p3:PySem.W.plainOver K C=true) (p4:PySem.W.findIn K (.ref C) "__setattr__"=some (some (.builtin "object.__setattr__")))
  (n0:PySem.W.findIn K (.ref C) "place"=some none) (n1:PySem.W.findIn K (.ref C) "room"=some none) (n2:PySem.W.findIn K (.ref C) "first"=some none) (n3:PySem.W.findIn K (.ref C) "again"=some none) (k1:PySem.W.makesIn K C=true) (k2:PySem.W.findIn K (.ref C) "__init__"=some (some (.ref fi_))) (k3:PySem.W.isFn K (.ref fi_)=true) (k4:PySem.W.keepIn K (.ref C)=true)
  (i_l:K.lookup fi_=some ⟨i_oc,i_od,.func (PySem.W.fnOf "__init__" "ForEver.__init__" (cW (aH (top 15) 0)) (b5 (aH (top 15) 0)) (aL (aH (top 15) 0)) .none i_kV i_doc i_pm i_an i_cdv i_ct),i_osl⟩) (i_c:PySem.W.codeIn K i_cdv "ForEver.__init__"=true) (i_k:PySem.W.keepIn K (.ref fi_)=true):j2 K mg:=by
 have FE:=eP (st:=(aH (top 12) 0)) e_l e_c e_k
 have FI:=eP (st:=(aH (top 15) 0)) i_l i_c i_k
 exact ⟨CE,fe_,_,C,fi_,_,PySem.W.mg_of X G m1,⟨s1,qZ r1 r2 r3 r4,aA7 q1 q2 q3 q4 q5,e_k⟩,FE,FE.binds (ps:=["self","place","room"]) (fun _ _ _ _ _ _=>Mc.bn3 fun _ _ _=>rfl),PySem.W.mg_of X G m2,⟨p1,p2,p3,p4⟩,fun f hf=>by
  simp only[List.mem_cons,List.not_mem_nil,or_false] at hf
  rcases hf with rfl|rfl|rfl|rfl
  · exact n0
  · exact n1
  · exact n2
  · exact n3, ⟨k1, k2, k3, k4⟩, FI, FI.binds (ps := ["self", "place", "room", "first", "again"]) (fun _ _ _ _ _ _ => Mc.bn5 fun _ _ _ _ _ => rfl)⟩
theorem p9(X:K.In h)(G:h.Ns mainGlobals mg){C:Addr}{fm_:Addr}{m_oc:Value}{m_od m_an:Option Addr}{m_osl:Array (Option Value)}{m_kV m_doc m_pm m_cdv m_ct:Value}(m2:PySem.W.nsIn K mainGlobals "LetBy"=some (some (.ref C)))(p1:PySem.W.plainGet K C Str.empty=true)(p2:PySem.W.hasDictIn K C=true)(p3:PySem.W.plainOver K C=true)(p4:PySem.W.findIn K (.ref C) "__setattr__"=some (some (.builtin "object.__setattr__")))
  (k2:PySem.W.findIn K (.ref C) "stops"=some (some (.ref fm_))) (k3:PySem.W.isFn K (.ref fm_)=true) (m_l:K.lookup fm_=some ⟨m_oc,m_od,.func (PySem.W.fnOf "stops" "LetBy.stops" (cW (aH (top 13) 2)) (b5 (aH (top 13) 2)) (aL (aH (top 13) 2)) .none m_kV m_doc m_pm m_an m_cdv m_ct),m_osl⟩) (m_c:PySem.W.codeIn K m_cdv "LetBy.stops"=true) (m_k:PySem.W.keepIn K (.ref fm_)=true):jD K mg:=by
 have FI:=eP (st:=(aH (top 13) 2)) m_l m_c m_k
 exact ⟨C,fm_,_,PySem.W.mg_of X G m2,⟨p1,p2,p3,p4⟩,⟨k2,k3,m_k⟩,FI,FI.binds (ps:=["self"]) (fun _ _ _ _ _ _=>Mc.bn1 fun _=>rfl)⟩
theorem qA(X:K.In h)(G:h.Ns mainGlobals mg){C:Addr}{fm_:Addr}{m_oc:Value}{m_od m_an:Option Addr}{m_osl:Array (Option Value)}{m_kV m_doc m_pm m_cdv m_ct:Value}(m2:PySem.W.nsIn K mainGlobals "LetBy"=some (some (.ref C)))(p1:PySem.W.plainGet K C Str.empty=true)(p2:PySem.W.hasDictIn K C=true)(p3:PySem.W.plainOver K C=true)(p4:PySem.W.findIn K (.ref C) "__setattr__"=some (some (.builtin "object.__setattr__")))
  (k2:PySem.W.findIn K (.ref C) "paper"=some (some (.ref fm_))) (k3:PySem.W.isFn K (.ref fm_)=true) (m_l:K.lookup fm_=some ⟨m_oc,m_od,.func (PySem.W.fnOf "paper" "LetBy.paper" (cW (aH (top 13) 3)) (b5 (aH (top 13) 3)) (aL (aH (top 13) 3)) .none m_kV m_doc m_pm m_an m_cdv m_ct),m_osl⟩) (m_c:PySem.W.codeIn K m_cdv "LetBy.paper"=true) (m_k:PySem.W.keepIn K (.ref fm_)=true):jE K mg:=by
 have FI:=eP (st:=(aH (top 13) 3)) m_l m_c m_k
 exact ⟨C,fm_,_,PySem.W.mg_of X G m2,⟨p1,p2,p3,p4⟩,⟨k2,k3,m_k⟩,FI,FI.binds (ps:=["self"]) (fun _ _ _ _ _ _=>Mc.bn1 fun _=>rfl)⟩
theorem oC(X:K.In h)(G:h.Ns mainGlobals mg){C:Addr}{fm_:Addr}{m_oc:Value}{m_od m_an:Option Addr}{m_osl:Array (Option Value)}{m_kV m_doc m_pm m_cdv m_ct:Value}(m2:PySem.W.nsIn K mainGlobals "ShutOut"=some (some (.ref C)))(p1:PySem.W.plainGet K C Str.empty=true)(p2:PySem.W.hasDictIn K C=true)(p3:PySem.W.plainOver K C=true)(p4:PySem.W.findIn K (.ref C) "__setattr__"=some (some (.builtin "object.__setattr__")))
  (k2:PySem.W.findIn K (.ref C) "stops"=some (some (.ref fm_))) (k3:PySem.W.isFn K (.ref fm_)=true) (m_l:K.lookup fm_=some ⟨m_oc,m_od,.func (PySem.W.fnOf "stops" "ShutOut.stops" (cW (aH (top 14) 2)) (b5 (aH (top 14) 2)) (aL (aH (top 14) 2)) .none m_kV m_doc m_pm m_an m_cdv m_ct),m_osl⟩) (m_c:PySem.W.codeIn K m_cdv "ShutOut.stops"=true) (m_k:PySem.W.keepIn K (.ref fm_)=true):hZ K mg:=by
 have FI:=eP (st:=(aH (top 14) 2)) m_l m_c m_k
 exact ⟨C,fm_,_,PySem.W.mg_of X G m2,⟨p1,p2,p3,p4⟩,⟨k2,k3,m_k⟩,FI,FI.binds (ps:=["self"]) (fun _ _ _ _ _ _=>Mc.bn1 fun _=>rfl)⟩
theorem oE(X:K.In h)(G:h.Ns mainGlobals mg){C:Addr}{fm_:Addr}{m_oc:Value}{m_od m_an:Option Addr}{m_osl:Array (Option Value)}{m_kV m_doc m_pm m_cdv m_ct:Value}(m2:PySem.W.nsIn K mainGlobals "ShutOut"=some (some (.ref C)))(p1:PySem.W.plainGet K C Str.empty=true)(p2:PySem.W.hasDictIn K C=true)(p3:PySem.W.plainOver K C=true)(p4:PySem.W.findIn K (.ref C) "__setattr__"=some (some (.builtin "object.__setattr__")))
  (k2:PySem.W.findIn K (.ref C) "paper"=some (some (.ref fm_))) (k3:PySem.W.isFn K (.ref fm_)=true) (m_l:K.lookup fm_=some ⟨m_oc,m_od,.func (PySem.W.fnOf "paper" "ShutOut.paper" (cW (aH (top 14) 3)) (b5 (aH (top 14) 3)) (aL (aH (top 14) 3)) .none m_kV m_doc m_pm m_an m_cdv m_ct),m_osl⟩) (m_c:PySem.W.codeIn K m_cdv "ShutOut.paper"=true) (m_k:PySem.W.keepIn K (.ref fm_)=true):h7 K mg:=by
 have FI:=eP (st:=(aH (top 14) 3)) m_l m_c m_k
 exact ⟨C,fm_,_,PySem.W.mg_of X G m2,⟨p1,p2,p3,p4⟩,⟨k2,k3,m_k⟩,FI,FI.binds (ps:=["self"]) (fun _ _ _ _ _ _=>Mc.bn1 fun _=>rfl)⟩
theorem oF(X:K.In h)(G:h.Ns mainGlobals mg){C:Addr}{fm_:Addr}{m_oc:Value}{m_od m_an:Option Addr}{m_osl:Array (Option Value)}{m_kV m_doc m_pm m_cdv m_ct:Value}(m2:PySem.W.nsIn K mainGlobals "ForEver"=some (some (.ref C)))(p1:PySem.W.plainGet K C Str.empty=true)(p2:PySem.W.hasDictIn K C=true)(p3:PySem.W.plainOver K C=true)(p4:PySem.W.findIn K (.ref C) "__setattr__"=some (some (.builtin "object.__setattr__")))
  (k2:PySem.W.findIn K (.ref C) "stops"=some (some (.ref fm_))) (k3:PySem.W.isFn K (.ref fm_)=true) (m_l:K.lookup fm_=some ⟨m_oc,m_od,.func (PySem.W.fnOf "stops" "ForEver.stops" (cW (aH (top 15) 2)) (b5 (aH (top 15) 2)) (aL (aH (top 15) 2)) .none m_kV m_doc m_pm m_an m_cdv m_ct),m_osl⟩) (m_c:PySem.W.codeIn K m_cdv "ForEver.stops"=true) (m_k:PySem.W.keepIn K (.ref fm_)=true):h8 K mg:=by
 have FI:=eP (st:=(aH (top 15) 2)) m_l m_c m_k
 exact ⟨C,fm_,_,PySem.W.mg_of X G m2,⟨p1,p2,p3,p4⟩,⟨k2,k3,m_k⟩,FI,FI.binds (ps:=["self"]) (fun _ _ _ _ _ _=>Mc.bn1 fun _=>rfl)⟩
theorem oG(X:K.In h)(G:h.Ns mainGlobals mg){C:Addr}{fm_:Addr}{m_oc:Value}{m_od m_an:Option Addr}{m_osl:Array (Option Value)}{m_kV m_doc m_pm m_cdv m_ct:Value}(m2:PySem.W.nsIn K mainGlobals "ForEver"=some (some (.ref C)))(p1:PySem.W.plainGet K C Str.empty=true)(p2:PySem.W.hasDictIn K C=true)(p3:PySem.W.plainOver K C=true)(p4:PySem.W.findIn K (.ref C) "__setattr__"=some (some (.builtin "object.__setattr__")))
  (k2:PySem.W.findIn K (.ref C) "paper"=some (some (.ref fm_))) (k3:PySem.W.isFn K (.ref fm_)=true) (m_l:K.lookup fm_=some ⟨m_oc,m_od,.func (PySem.W.fnOf "paper" "ForEver.paper" (cW (aH (top 15) 3)) (b5 (aH (top 15) 3)) (aL (aH (top 15) 3)) .none m_kV m_doc m_pm m_an m_cdv m_ct),m_osl⟩) (m_c:PySem.W.codeIn K m_cdv "ForEver.paper"=true) (m_k:PySem.W.keepIn K (.ref fm_)=true):iA K mg:=by
 have FI:=eP (st:=(aH (top 15) 3)) m_l m_c m_k
 exact ⟨C,fm_,_,PySem.W.mg_of X G m2,⟨p1,p2,p3,p4⟩,⟨k2,k3,m_k⟩,FI,FI.binds (ps:=["self"]) (fun _ _ _ _ _ _=>Mc.bn1 fun _=>rfl)⟩
theorem j3{c x:Str}(X:K.In h)(G:h.Ns mainGlobals mg){C:Addr}(m2:PySem.W.nsIn K mainGlobals c=some (some (.ref C)))(p1:PySem.W.plainGet K C Str.empty=true)(p2:PySem.W.hasDictIn K C=true)(p3:PySem.W.plainOver K C=true)(p4:PySem.W.findIn K (.ref C) "__setattr__"=some (some (.builtin "object.__setattr__")))(n:PySem.W.findIn K (.ref C) x=some none):∃ C,mg c=some (.ref C)/\Cls K C/\cX K C x:=⟨C,PySem.W.mg_of X G m2,⟨p1,p2,p3,p4⟩,n⟩
theorem aKS{fa f:Addr}{oc:Value}{od an:Option Addr}{osl:Array (Option Value)}{kV doc pm cdv ct:Value}(X:K.In h)(G:h.Ns mainGlobals mg)(hmg:mg "law"=some (.ref fa))(a:PySem.W.nsIn K mainGlobals "law"=some (some (.ref f)))(l:K.lookup f=some ⟨oc,od,.func (PySem.W.fnOf "law" "law" (cW (top 37)) (b5 (top 37)) (aL (top 37)) .none kV doc pm an cdv ct),osl⟩)
  (c:PySem.W.codeIn K cdv "law"=true) (k:PySem.W.keepIn K (.ref f)=true):∃ fd,Fun K "law" "law" (top 37) fa fd/\∀ (s:Shared) (u:Value),BindsTo s fd ⟨[u],[]⟩ [("_law_script",u)]:=by
 have e:=hmg.symm.trans (PySem.W.mg_of X G a)
 cases e
 exact ⟨_,eP (st:=top 37) l c k,fun s u=>.of_eq rfl⟩
end
end Mc
open PySem PySem.W PyProof.Rows
set_option maxRecDepth 100000 in
set_option maxHeartbeats 0 in
theorem PySem.Challenge.cw_striproam_k09_papers_for_ever_holds : PySem.Challenge.rw_striproam_k09_papers_for_ever.Holds := by
 w_on;o_law;k_head;(case hw=>w_witness2)
 k_fill
 refine Fl.aJP (l:=PySem.Challenge.rw_striproam_k09_papers_for_ever) (k:=8) (x:="_law_script") rfl rfl ⟨rfl,by decide,by decide⟩ (fun w h Y=>PySem.W.kIn_of Y) ?F
 case F=>
  intro w mg fa h KX G hmg
  have D7:L2.DefAt (L2.KOf KX) mg "signs_of" (Mc.top 7) ["machine"]:=by dsimp only[L2.KOf];refine' Mc.cI KX G ?a ?l ?c ?k ?b;(case a=>k_is);(case l=>k_is);(case c=>k_is);(case k=>k_is);(case b=>exact fun _ _ _ _ _ _=>Mc.bn1 fun _=>rfl)
  have D8:L2.DefAt (L2.KOf KX) mg "checked_by" (Mc.top 8) ["signs","strip"]:=by dsimp only[L2.KOf];refine' Mc.cI KX G ?a ?l ?c ?k ?b;(case a=>k_is);(case l=>k_is);(case c=>k_is);(case k=>k_is);(case b=>exact fun _ _ _ _ _ _=>Mc.bn2 fun _ _=>rfl)
  have D9:L2.DefAt (L2.KOf KX) mg "checked" (Mc.top 9) ["machine","strip"]:=by dsimp only[L2.KOf];refine' Mc.cI KX G ?a ?l ?c ?k ?b;(case a=>k_is);(case l=>k_is);(case c=>k_is);(case k=>k_is);(case b=>exact fun _ _ _ _ _ _=>Mc.bn2 fun _ _=>rfl)
  have D16:L2.DefAt (L2.KOf KX) mg "cell_at" (Mc.top 16) ["machine","strip","stand"]:=by dsimp only[L2.KOf];refine' Mc.cI KX G ?a ?l ?c ?k ?b;(case a=>k_is);(case l=>k_is);(case c=>k_is);(case k=>k_is);(case b=>exact fun _ _ _ _ _ _=>Mc.bn3 fun _ _ _=>rfl)
  have D17:L2.DefAt (L2.KOf KX) mg "path" (Mc.top 17) ["machine","strip"]:=by dsimp only[L2.KOf];refine' Mc.cI KX G ?a ?l ?c ?k ?b;(case a=>k_is);(case l=>k_is);(case c=>k_is);(case k=>k_is);(case b=>exact fun _ _ _ _ _ _=>Mc.bn2 fun _ _=>rfl)
  have D18:L2.DefAt (L2.KOf KX) mg "borders_of" (Mc.top 18) ["stands","strip"]:=by dsimp only[L2.KOf];refine' Mc.cI KX G ?a ?l ?c ?k ?b;(case a=>k_is);(case l=>k_is);(case c=>k_is);(case k=>k_is);(case b=>exact fun _ _ _ _ _ _=>Mc.bn2 fun _ _=>rfl)
  have D19:L2.DefAt (L2.KOf KX) mg "walk" (Mc.top 19) ["machine","strip"]:=by dsimp only[L2.KOf];refine' Mc.cI KX G ?a ?l ?c ?k ?b;(case a=>k_is);(case l=>k_is);(case c=>k_is);(case k=>k_is);(case b=>exact fun _ _ _ _ _ _=>Mc.bn2 fun _ _=>rfl)
  have D21:L2.DefAt (L2.KOf KX) mg "stand_at" (Mc.top 21) ["stands","ending","number"]:=by dsimp only[L2.KOf];refine' Mc.cI KX G ?a ?l ?c ?k ?b;(case a=>k_is);(case l=>k_is);(case c=>k_is);(case k=>k_is);(case b=>exact fun _ _ _ _ _ _=>Mc.bn3 fun _ _ _=>rfl)
  have D22:L2.DefAt (L2.KOf KX) mg "goes_round" (Mc.top 22) ["machine","strip","ending","paper"]:=by dsimp only[L2.KOf];refine' Mc.cI KX G ?a ?l ?c ?k ?b;(case a=>k_is);(case l=>k_is);(case c=>k_is);(case k=>k_is);(case b=>exact fun _ _ _ _ _ _=>Mc.bn4 fun _ _ _ _=>rfl)
  have D23:L2.DefAt (L2.KOf KX) mg "holds" (Mc.top 23) ["machine","strip","paper"]:=by dsimp only[L2.KOf];refine' Mc.cI KX G ?a ?l ?c ?k ?b;(case a=>k_is);(case l=>k_is);(case c=>k_is);(case k=>k_is);(case b=>exact fun _ _ _ _ _ _=>Mc.bn3 fun _ _ _=>rfl)
  have D25:L2.DefAt (L2.KOf KX) mg "_law_truth" (Mc.top 25) ["_law_found","_law_due"]:=by dsimp only[L2.KOf];refine' Mc.cI KX G ?a ?l ?c ?k ?b;(case a=>k_is);(case l=>k_is);(case c=>k_is);(case k=>k_is);(case b=>exact fun _ _ _ _ _ _=>Mc.bn2 fun _ _=>rfl)
  have D26:L2.DefAt (L2.KOf KX) mg "_law_cell" (Mc.top 26) ["_law_script","_law_k"]:=by dsimp only[L2.KOf];refine' Mc.cI KX G ?a ?l ?c ?k ?b;(case a=>k_is);(case l=>k_is);(case c=>k_is);(case k=>k_is);(case b=>exact fun _ _ _ _ _ _=>Mc.bn2 fun _ _=>rfl)
  have D27:L2.DefAt (L2.KOf KX) mg "_law_end" (Mc.top 27) ["_law_number","_law_rooms"]:=by dsimp only[L2.KOf];refine' Mc.cI KX G ?a ?l ?c ?k ?b;(case a=>k_is);(case l=>k_is);(case c=>k_is);(case k=>k_is);(case b=>exact fun _ _ _ _ _ _=>Mc.bn2 fun _ _=>rfl)
  have D28:L2.DefAt (L2.KOf KX) mg "_law_digit_row" (Mc.top 28) ["_law_number","_law_rooms","_law_signs"]:=by dsimp only[L2.KOf];refine' Mc.cI KX G ?a ?l ?c ?k ?b;(case a=>k_is);(case l=>k_is);(case c=>k_is);(case k=>k_is);(case b=>exact fun _ _ _ _ _ _=>Mc.bn3 fun _ _ _=>rfl)
  have D29:L2.DefAt (L2.KOf KX) mg "_law_mixed_row" (Mc.top 29) ["_law_number","_law_rooms","_law_signs"]:=by dsimp only[L2.KOf];refine' Mc.cI KX G ?a ?l ?c ?k ?b;(case a=>k_is);(case l=>k_is);(case c=>k_is);(case k=>k_is);(case b=>exact fun _ _ _ _ _ _=>Mc.bn3 fun _ _ _=>rfl)
  have D30:L2.DefAt (L2.KOf KX) mg "_law_machine" (Mc.top 30) ["_law_script","_law_at","_law_rooms","_law_signs"]:=by dsimp only[L2.KOf];refine' Mc.cI KX G ?a ?l ?c ?k ?b;(case a=>k_is);(case l=>k_is);(case c=>k_is);(case k=>k_is);(case b=>exact fun _ _ _ _ _ _=>Mc.bn4 fun _ _ _ _=>rfl)
  have D31:L2.DefAt (L2.KOf KX) mg "_law_strip" (Mc.top 31) ["_law_script","_law_at","_law_size","_law_signs"]:=by dsimp only[L2.KOf];refine' Mc.cI KX G ?a ?l ?c ?k ?b;(case a=>k_is);(case l=>k_is);(case c=>k_is);(case k=>k_is);(case b=>exact fun _ _ _ _ _ _=>Mc.bn4 fun _ _ _ _=>rfl)
  have D32:L2.DefAt (L2.KOf KX) mg "_law_step" (Mc.top 32) ["_law_machine_here","_law_strip_here","_law_stand"]:=by dsimp only[L2.KOf];refine' Mc.cI KX G ?a ?l ?c ?k ?b;(case a=>k_is);(case l=>k_is);(case c=>k_is);(case k=>k_is);(case b=>exact fun _ _ _ _ _ _=>Mc.bn3 fun _ _ _=>rfl)
  have D34:L2.DefAt (L2.KOf KX) mg "_law_drawn" (Mc.top 34) ["_law_script"]:=by dsimp only[L2.KOf];refine' Mc.cI KX G ?a ?l ?c ?k ?b;(case a=>k_is);(case l=>k_is);(case c=>k_is);(case k=>k_is);(case b=>exact fun _ _ _ _ _ _=>Mc.bn1 fun _=>rfl)
  have D35:L2.DefAt (L2.KOf KX) mg "_law_on" (Mc.top 35) ["_law_machine_here","_law_strip_here","_law_most"]:=by dsimp only[L2.KOf];refine' Mc.cI KX G ?a ?l ?c ?k ?b;(case a=>k_is);(case l=>k_is);(case c=>k_is);(case k=>k_is);(case b=>exact fun _ _ _ _ _ _=>Mc.bn3 fun _ _ _=>rfl)
  have D36:L2.DefAt (L2.KOf KX) mg "_law_numbers" (Mc.top 36) ["_law_cell_here","_law_stands_here","_law_most"]:=by dsimp only[L2.KOf];refine' Mc.cI KX G ?a ?l ?c ?k ?b;(case a=>k_is);(case l=>k_is);(case c=>k_is);(case k=>k_is);(case b=>exact fun _ _ _ _ _ _=>Mc.bn3 fun _ _ _=>rfl)
  have T:Mc.Txt w (L2.KOf KX) mg:=by
   dsimp only[L2.KOf]
   refine' Mc.aKR KX G ?z_abs ?z_bool ?z_enumerate ?z_int ?z_isinstance ?z_len ?z_min ?z_range ?z_str ?z_tuple ?z_zip ?s_BEGIN (Mc.aI8 ?m_BEGIN) ?s_SIGNS ?s_STOPS (Mc.aI7 ?m_STOPS)
   (case z_abs=>k_is);(case z_bool=>k_is);(case z_enumerate=>k_is);(case z_int=>k_is);(case z_isinstance=>k_is);(case z_len=>k_is);(case z_min=>k_is);(case z_range=>k_is);(case z_str=>k_is);(case z_tuple=>k_is);(case z_zip=>k_is);(case s_BEGIN=>k_is);(case m_BEGIN=>k_is);(case s_SIGNS=>k_is);(case s_STOPS=>k_is);(case m_STOPS=>k_is)
  have E_NoStrip:Mc.jC (L2.KOf KX) mg:=by
   dsimp only[L2.KOf]
   refine' Mc.vA KX G ?m ?e1 ?e2 ?e3 ?e4 ?e5 ?e6 ?e7 ?e8 ?p1 ?i1 ?i2 ?i3 ?i4 ?i5
   (case m=>k_is)
   (case e1=>k_is)
   (case e2=>k_is);(case e3=>k_is);(case e4=>k_is);(case e5=>k_is);(case e6=>k_is);(case e7=>k_is);(case e8=>k_is)
   (case p1=>k_is);(case i1=>k_is);(case i2=>k_is);(case i3=>k_is);(case i4=>k_is);(case i5=>k_is)
  have Ob_LetBy:Mc.l0 (L2.KOf KX) mg:=by
   dsimp only[L2.KOf]
   refine' Mc.yI KX G ?m1 ?s1 ?r1 ?r2 ?r3 ?r4 ?q1 ?q2 ?q3 ?q4 ?q5 ?e_l ?e_c ?e_k ?m2 ?p1 ?p2 ?p3 ?p4 ?n0 ?n1 ?n2 ?k1 ?k2 ?k3 ?k4 ?i_l ?i_c ?i_k
   (case m1=>k_is);(case m2=>k_is);(case q4=>k_is);(case k2=>k_is);(case e_l=>k_is);(case i_l=>k_is);(case s1=>k_is);(case r1=>k_is);(case r2=>k_is);(case r3=>k_is);(case r4=>k_is);(case q1=>k_is);(case q2=>k_is);(case q3=>k_is);(case q5=>k_is);(case e_c=>k_is);(case e_k=>k_is);(case p1=>k_is);(case p2=>k_is);(case p3=>k_is);(case p4=>k_is);(case n0=>k_is);(case n1=>k_is);(case n2=>k_is);(case k1=>k_is);(case k3=>k_is);(case k4=>k_is);(case i_c=>k_is);(case i_k=>k_is)
  have Ob_ShutOut:Mc.j1 (L2.KOf KX) mg:=by
   dsimp only[L2.KOf]
   refine' Mc.vB KX G ?m1 ?s1 ?r1 ?r2 ?r3 ?r4 ?q1 ?q2 ?q3 ?q4 ?q5 ?e_l ?e_c ?e_k ?m2 ?p1 ?p2 ?p3 ?p4 ?n0 ?n1 ?n2 ?k1 ?k2 ?k3 ?k4 ?i_l ?i_c ?i_k
   (case m1=>k_is);(case m2=>k_is);(case q4=>k_is);(case k2=>k_is);(case e_l=>k_is);(case i_l=>k_is);(case s1=>k_is);(case r1=>k_is);(case r2=>k_is);(case r3=>k_is);(case r4=>k_is);(case q1=>k_is);(case q2=>k_is);(case q3=>k_is);(case q5=>k_is);(case e_c=>k_is);(case e_k=>k_is);(case p1=>k_is);(case p2=>k_is);(case p3=>k_is);(case p4=>k_is);(case n0=>k_is);(case n1=>k_is);(case n2=>k_is);(case k1=>k_is);(case k3=>k_is);(case k4=>k_is);(case i_c=>k_is);(case i_k=>k_is)
  have Ob_ForEver:Mc.j2 (L2.KOf KX) mg:=by
   dsimp only[L2.KOf]
   refine' Mc.vC KX G ?m1 ?s1 ?r1 ?r2 ?r3 ?r4 ?q1 ?q2 ?q3 ?q4 ?q5 ?e_l ?e_c ?e_k ?m2 ?p1 ?p2 ?p3 ?p4 ?n0 ?n1 ?n2 ?n3 ?k1 ?k2 ?k3 ?k4 ?i_l ?i_c ?i_k
   (case m1=>k_is);(case m2=>k_is);(case q4=>k_is);(case k2=>k_is);(case e_l=>k_is);(case i_l=>k_is);(case s1=>k_is);(case r1=>k_is);(case r2=>k_is);(case r3=>k_is);(case r4=>k_is);(case q1=>k_is);(case q2=>k_is);(case q3=>k_is);(case q5=>k_is);(case e_c=>k_is);(case e_k=>k_is);(case p1=>k_is);(case p2=>k_is);(case p3=>k_is);(case p4=>k_is);(case n0=>k_is);(case n1=>k_is);(case n2=>k_is);(case n3=>k_is);(case k1=>k_is);(case k3=>k_is);(case k4=>k_is);(case i_c=>k_is);(case i_k=>k_is)
  have Fo_ForEver_first:∃ C,mg "ForEver"=some (.ref C)/\L2.Cls (L2.KOf KX) C/\L2.cX (L2.KOf KX) C "first":=by
   dsimp only[L2.KOf]
   refine' Mc.j3 KX G ?m2 ?p1 ?p2 ?p3 ?p4 ?n
   (case m2=>k_is);(case p1=>k_is);(case p2=>k_is);(case p3=>k_is);(case p4=>k_is);(case n=>k_is)
  have fo_first:Fl.f9 (L2.KOf KX) mg ["ForEver"] "first":=by
   intro nm hn
   simp only[List.mem_cons,List.not_mem_nil,or_false] at hn
   rcases hn with rfl
   · exact Fo_ForEver_first
  have Fo_ForEver_again:∃ C,mg "ForEver"=some (.ref C)/\L2.Cls (L2.KOf KX) C/\L2.cX (L2.KOf KX) C "again":=by
   dsimp only[L2.KOf]
   refine' Mc.j3 KX G ?m2 ?p1 ?p2 ?p3 ?p4 ?n
   (case m2=>k_is);(case p1=>k_is);(case p2=>k_is);(case p3=>k_is);(case p4=>k_is);(case n=>k_is)
  have fo_again:Fl.f9 (L2.KOf KX) mg ["ForEver"] "again":=by
   intro nm hn
   simp only[List.mem_cons,List.not_mem_nil,or_false] at hn
   rcases hn with rfl
   · exact Fo_ForEver_again
  have Fo_LetBy_borders:∃ C,mg "LetBy"=some (.ref C)/\L2.Cls (L2.KOf KX) C/\L2.cX (L2.KOf KX) C "borders":=by
   dsimp only[L2.KOf]
   refine' Mc.j3 KX G ?m2 ?p1 ?p2 ?p3 ?p4 ?n
   (case m2=>k_is);(case p1=>k_is);(case p2=>k_is);(case p3=>k_is);(case p4=>k_is);(case n=>k_is)
  have Fo_ShutOut_borders:∃ C,mg "ShutOut"=some (.ref C)/\L2.Cls (L2.KOf KX) C/\L2.cX (L2.KOf KX) C "borders":=by
   dsimp only[L2.KOf]
   refine' Mc.j3 KX G ?m2 ?p1 ?p2 ?p3 ?p4 ?n
   (case m2=>k_is);(case p1=>k_is);(case p2=>k_is);(case p3=>k_is);(case p4=>k_is);(case n=>k_is)
  have fo_borders:Fl.f9 (L2.KOf KX) mg ["LetBy","ShutOut"] "borders":=by
   intro nm hn
   simp only[List.mem_cons,List.not_mem_nil,or_false] at hn
   rcases hn with rfl|rfl
   · exact Fo_LetBy_borders
   · exact Fo_ShutOut_borders
  have Fo_LetBy_room:∃ C,mg "LetBy"=some (.ref C)/\L2.Cls (L2.KOf KX) C/\L2.cX (L2.KOf KX) C "room":=by
   dsimp only[L2.KOf]
   refine' Mc.j3 KX G ?m2 ?p1 ?p2 ?p3 ?p4 ?n
   (case m2=>k_is);(case p1=>k_is);(case p2=>k_is);(case p3=>k_is);(case p4=>k_is);(case n=>k_is)
  have Fo_ShutOut_room:∃ C,mg "ShutOut"=some (.ref C)/\L2.Cls (L2.KOf KX) C/\L2.cX (L2.KOf KX) C "room":=by
   dsimp only[L2.KOf]
   refine' Mc.j3 KX G ?m2 ?p1 ?p2 ?p3 ?p4 ?n
   (case m2=>k_is);(case p1=>k_is);(case p2=>k_is);(case p3=>k_is);(case p4=>k_is);(case n=>k_is)
  have Fo_ForEver_room:∃ C,mg "ForEver"=some (.ref C)/\L2.Cls (L2.KOf KX) C/\L2.cX (L2.KOf KX) C "room":=by
   dsimp only[L2.KOf]
   refine' Mc.j3 KX G ?m2 ?p1 ?p2 ?p3 ?p4 ?n
   (case m2=>k_is);(case p1=>k_is);(case p2=>k_is);(case p3=>k_is);(case p4=>k_is);(case n=>k_is)
  have fo_room:Fl.f9 (L2.KOf KX) mg ["LetBy","ShutOut","ForEver"] "room":=by
   intro nm hn
   simp only[List.mem_cons,List.not_mem_nil,or_false] at hn
   rcases hn with rfl|rfl|rfl
   · exact Fo_LetBy_room
   · exact Fo_ShutOut_room
   · exact Fo_ForEver_room
  have Fo_LetBy_place:∃ C,mg "LetBy"=some (.ref C)/\L2.Cls (L2.KOf KX) C/\L2.cX (L2.KOf KX) C "place":=by
   dsimp only[L2.KOf]
   refine' Mc.j3 KX G ?m2 ?p1 ?p2 ?p3 ?p4 ?n
   (case m2=>k_is);(case p1=>k_is);(case p2=>k_is);(case p3=>k_is);(case p4=>k_is);(case n=>k_is)
  have Fo_ShutOut_place:∃ C,mg "ShutOut"=some (.ref C)/\L2.Cls (L2.KOf KX) C/\L2.cX (L2.KOf KX) C "place":=by
   dsimp only[L2.KOf]
   refine' Mc.j3 KX G ?m2 ?p1 ?p2 ?p3 ?p4 ?n
   (case m2=>k_is);(case p1=>k_is);(case p2=>k_is);(case p3=>k_is);(case p4=>k_is);(case n=>k_is)
  have Fo_ForEver_place:∃ C,mg "ForEver"=some (.ref C)/\L2.Cls (L2.KOf KX) C/\L2.cX (L2.KOf KX) C "place":=by
   dsimp only[L2.KOf]
   refine' Mc.j3 KX G ?m2 ?p1 ?p2 ?p3 ?p4 ?n
   (case m2=>k_is);(case p1=>k_is);(case p2=>k_is);(case p3=>k_is);(case p4=>k_is);(case n=>k_is)
  have fo_place:Fl.f9 (L2.KOf KX) mg ["LetBy","ShutOut","ForEver"] "place":=by
   intro nm hn
   simp only[List.mem_cons,List.not_mem_nil,or_false] at hn
   rcases hn with rfl|rfl|rfl
   · exact Fo_LetBy_place
   · exact Fo_ShutOut_place
   · exact Fo_ForEver_place
  have Mt_LetBy_stops:Mc.jD (L2.KOf KX) mg:=by
   dsimp only[L2.KOf]
   refine' Mc.p9 KX G ?m2 ?p1 ?p2 ?p3 ?p4 ?k2 ?k3 ?m_l ?m_c ?m_k
   (case m2=>k_is);(case k2=>k_is);(case m_l=>k_is);(case p1=>k_is);(case p2=>k_is);(case p3=>k_is);(case p4=>k_is);(case k3=>k_is);(case m_c=>k_is);(case m_k=>k_is)
  have Mt_ShutOut_stops:Mc.hZ (L2.KOf KX) mg:=by
   dsimp only[L2.KOf]
   refine' Mc.oC KX G ?m2 ?p1 ?p2 ?p3 ?p4 ?k2 ?k3 ?m_l ?m_c ?m_k
   (case m2=>k_is);(case k2=>k_is);(case m_l=>k_is);(case p1=>k_is);(case p2=>k_is);(case p3=>k_is);(case p4=>k_is);(case k3=>k_is);(case m_c=>k_is);(case m_k=>k_is)
  have Mt_ForEver_stops:Mc.h8 (L2.KOf KX) mg:=by
   dsimp only[L2.KOf]
   refine' Mc.oF KX G ?m2 ?p1 ?p2 ?p3 ?p4 ?k2 ?k3 ?m_l ?m_c ?m_k
   (case m2=>k_is);(case k2=>k_is);(case m_l=>k_is);(case p1=>k_is);(case p2=>k_is);(case p3=>k_is);(case p4=>k_is);(case k3=>k_is);(case m_c=>k_is);(case m_k=>k_is)
  have Mt_LetBy_paper:Mc.jE (L2.KOf KX) mg:=by
   dsimp only[L2.KOf]
   refine' Mc.qA KX G ?m2 ?p1 ?p2 ?p3 ?p4 ?k2 ?k3 ?m_l ?m_c ?m_k
   (case m2=>k_is);(case k2=>k_is);(case m_l=>k_is);(case p1=>k_is);(case p2=>k_is);(case p3=>k_is);(case p4=>k_is);(case k3=>k_is);(case m_c=>k_is);(case m_k=>k_is)
  have Mt_ShutOut_paper:Mc.h7 (L2.KOf KX) mg:=by
   dsimp only[L2.KOf]
   refine' Mc.oE KX G ?m2 ?p1 ?p2 ?p3 ?p4 ?k2 ?k3 ?m_l ?m_c ?m_k
   (case m2=>k_is);(case k2=>k_is);(case m_l=>k_is);(case p1=>k_is);(case p2=>k_is);(case p3=>k_is);(case p4=>k_is);(case k3=>k_is);(case m_c=>k_is);(case m_k=>k_is)
  have Mt_ForEver_paper:Mc.iA (L2.KOf KX) mg:=by
   dsimp only[L2.KOf]
   refine' Mc.oG KX G ?m2 ?p1 ?p2 ?p3 ?p4 ?k2 ?k3 ?m_l ?m_c ?m_k
   (case m2=>k_is);(case k2=>k_is);(case m_l=>k_is);(case p1=>k_is);(case p2=>k_is);(case p3=>k_is);(case p4=>k_is);(case k3=>k_is);(case m_c=>k_is);(case m_k=>k_is)
  have LL:∃ fd,L2.Fun (L2.KOf KX) "law" "law" (Mc.top 37) fa fd/\∀ (s:Shared) (u:Value),BindsTo s fd ⟨[u],[]⟩ [("_law_script",u)]:=by
   dsimp only[L2.KOf]
   refine' Mc.aKS KX G hmg ?a4 ?l4 ?c4 ?k4
   (case a4=>k_is);(case l4=>k_is);(case c4=>k_is);(case k4=>k_is)
  obtain ⟨fd,FL,hb⟩:=LL
  exact ⟨fd,hb,fun base _ _=>Mc.aH3 T E_NoStrip Ob_LetBy Ob_ShutOut Ob_ForEver fo_first fo_again fo_borders fo_room fo_place Mt_LetBy_stops Mt_ShutOut_stops Mt_ForEver_stops Mt_LetBy_paper Mt_ShutOut_paper Mt_ForEver_paper D7 D8 D9 D16 D17 D18 D19 D21 D22 D23 D25 D26 D27 D28 D29 D30 D31 D32 D34 D35 D36 FL⟩
end
