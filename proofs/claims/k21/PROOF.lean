import PyProof.Rows.All
import Wide.All
import OpenK.AllK
import Wide.FinOn
import Lean
import PyProof.EqAt
import PyProof.EqKinds
import PyProof.TupleCall
import PyProof.ExcInit
import PyProof.InstStoreFacts
import PyProof.StrLawsFirst
import PyProof.StrLawsIn
import KE.KLam
import PyProof.ListMulRoad
import PyProof.Rows.ListMul
import PyProof.ZipIter
import PyProof.Draws
import PyProof.ListStr
import PyProof.StrLaws
import PyProof.StrLawsIdx
import PySem.Challenge.RW_striproam_k21_rooms_as_first_reached
set_option linter.all false
set_option maxRecDepth 100000
set_option maxHeartbeats 4000000
set_option Elab.async false
set_option linter.all false
set_option maxRecDepth 100000
open PySem.W (Frag)
noncomputable section
namespace L2
open PySem PySem.Spec PyProof.Rows
abbrev Key := Sum Int Str
def p6 : Key -> Value -> Bool
 | .inl k, v => Value.isInt k v
 | .inr x, v => Value.isStrOf x v
def aMW (w : World) : Key -> Int
 | .inl k => hashInt k
 | .inr x => hashStr w x
theorem keyIs_shape : ∀ {k : Key} {v : Value}, p6 k v = true -> (∃ i t, k = Sum.inl i /\ v = Value.int i t) \/ (∃ x t, k = Sum.inr x /\ v = Value.str x t)
 | .inl i, v, h => by
  obtain ⟨t, e⟩ := Value.isInt_shape (k := i) (v := v) h
  exact .inl ⟨i, t, rfl, e⟩
 | .inr x, v, h => by
  obtain ⟨t, e⟩ := Value.isStrOf_shape (x := x) (v := v) h
  exact .inr ⟨x, t, rfl, e⟩
theorem aBV (i : Int) (t : Tok) : p6 (.inl i) (.int i t) = true := by simp [p6, Value.isInt]
theorem aBW (x : Str) (t : Tok) : p6 (.inr x) (.str x t) = true := by simp [p6, Value.isStrOf]
theorem aIK (a b : Int) : decide ((Sum.inl a : Key) = Sum.inl b) = (a == b) := by
 by_cases e : a = b
 ·subst e; simp
 ·have h : ¬ (Sum.inl a : Key) = Sum.inl b := fun q => e (Sum.inl.inj q)
  rw [decide_eq_false h]
  exact (beq_eq_false_iff_ne.mpr e).symm
theorem aIL (a b : Str) : decide ((Sum.inr a : Key) = Sum.inr b) = decide (a = b) := by
 by_cases e : a = b
 ·subst e; simp
 ·have h : ¬ (Sum.inr a : Key) = Sum.inr b := fun q => e (Sum.inr.inj q)
  rw [decide_eq_false h, decide_eq_false e]
theorem aIM (a : Int) (b : Str) : decide ((Sum.inl a : Key) = Sum.inr b) = false := decide_eq_false (fun q => nomatch q)
theorem aIN (a : Str) (b : Int) : decide ((Sum.inr a : Key) = Sum.inl b) = false := decide_eq_false (fun q => nomatch q)
def c6 (prog : Program) (w : World) : PySem.KeyKind prog w Key where
 is := p6
 hash := aMW w
 inj := fun v a b ha hb => by
  rcases keyIs_shape ha with ⟨i, t, rfl, rfl⟩ | ⟨x, t, rfl, rfl⟩
  ·rcases keyIs_shape hb with ⟨j, u, rfl, e⟩ | ⟨y, u, rfl, e⟩
   · injection e with e1 _; rw [e1]
   · exact nomatch e
  ·rcases keyIs_shape hb with ⟨j, u, rfl, e⟩ | ⟨y, u, rfl, e⟩
   · exact nomatch e
   · injection e with e1 _; rw [e1]
 byValue := fun k v h => by
  rcases keyIs_shape h with ⟨i, t, rfl, rfl⟩ | ⟨x, t, rfl, rfl⟩ <;> rfl
 pyHash := fun hv h => by
  rcases keyIs_shape hv with ⟨i, t, rfl, rfl⟩ | ⟨x, t, rfl, rfl⟩
  ·exact wpAny_pyHash_int h
  ·exact wpAny_pyHash_str h
 eqBool := fun hu hv h => by
  rcases keyIs_shape hu with ⟨i, t, rfl, rfl⟩ | ⟨x, t, rfl, rfl⟩
  ·rcases keyIs_shape hv with ⟨j, u, rfl, rfl⟩ | ⟨y, u, rfl, rfl⟩
   · rw [aIK] at h; exact wpAny_eqBool_int h
   · rw [aIM] at h; exact SeqAt.EqAt.int_str i t y u _ _ _ _ h
  ·rcases keyIs_shape hv with ⟨j, u, rfl, rfl⟩ | ⟨y, u, rfl, rfl⟩
   · rw [aIN] at h; exact SeqAt.EqAt.str_int x t j u _ _ _ _ h
   · rw [aIL] at h; exact wpAny_eqBool_str h
 «strs» := fun k x t v h => by
  rcases keyIs_shape h with ⟨i, u, rfl, e⟩ | ⟨y, u, rfl, e⟩
  ·exact nomatch e
  ·injection e with e1 _
   subst e1
   cases v <;> rfl
theorem yM (prog : Program) (w : World) (i : Int) (t : Tok) : (c6 prog w).is (.inl i) (.int i t) = true := aBV i t
theorem yN (prog : Program) (w : World) (x : Str) (t : Tok) : (c6 prog w).is (.inr x) (.str x t) = true := aBW x t
end L2
namespace L2
open PySem PySem.Spec PyProof.Rows
inductive V where
 | non | bl (b : Bool) | int (i : Int) | str (x : Str) | byt (b : Array UInt8) | flt (b : UInt64) | ref (a : Addr) | ty (n : String)
 deriving DecidableEq
def a5 : V -> Value -> Prop
 | .non, u => u = Value.none
 | .bl b, u => u = Value.bool b
 | .int i, u => ∃ t, u = Value.int i t
 | .str x, u => ∃ t, u = Value.str x t
 | .byt b, u => ∃ t, u = Value.bytes b t
 | .flt b, u => ∃ t, u = Value.float b t
 | .ref a, u => u = Value.ref a
 | .ty n, u => u = Value.type n
abbrev bH : List V -> List Value -> Prop := Paired a5
theorem bH.length {xs : List V} {us : List Value} (r : bH xs us) : xs.length = us.length := Paired.length r
theorem bH.get : ∀ {xs : List V} {us : List Value} {i : Nat} {x : V}, bH xs us -> xs[i]? = some x -> ∃ u, us[i]? = some u /\ a5 x u
 | _, _, _, _, .nil, e => by simp at e
 | _, _, 0, _, .cons r _, e => by simp at e; subst e; exact ⟨_, rfl, r⟩
 | _, _, i + 1, x, .cons _ t, e => by
  obtain ⟨u, h1, h2⟩ := bH.get (i := i) (x := x) t (by simpa using e)
  exact ⟨u, by simpa using h1, h2⟩
theorem bH.append : ∀ {xs ys : List V} {us ws : List Value}, bH xs us -> bH ys ws -> bH (xs ++ ys) (us ++ ws)
 | _, _, _, _, .nil, s => s
 | _, _, _, _, .cons r t, s => .cons r (bH.append t s)
theorem bH.take : ∀ {xs : List V} {us : List Value} (n : Nat), bH xs us -> bH (xs.take n) (us.take n)
 | _, _, 0, _ => .nil
 | _, _, _ + 1, .nil => .nil
 | _, _, n + 1, .cons r t => .cons r (bH.take n t)
theorem bH.drop : ∀ {xs : List V} {us : List Value} (n : Nat), bH xs us -> bH (xs.drop n) (us.drop n)
 | _, _, 0, r => r
 | _, _, _ + 1, .nil => .nil
 | _, _, n + 1, .cons _ t => bH.drop n t
def mV : Option V -> Option Value -> Prop
 | some v, some u => a5 v u
 | none, none => True
 | _, _ => False
def KV {κ : Type} : List (κ × V) -> List (κ × Value) -> Prop := Paired fun (p : κ × V) (q : κ × Value) => p.1 = q.1 /\ a5 p.2 q.2
def kV : Key -> V
 | .inl i => .int i
 | .inr x => .str x
inductive HO where
 | lst (xs : List V)
 | tup (xs : List V)
 | dK (kvs : List (Key × V)) | dT (kvs : List (List Key × V))
 | set (S : Int -> Bool) (n : Nat)
 | ins (C dx : Addr) (fs : List (Str × V))
 | own (x : Addr)
 | xd (fs : List (Str × V))
 | met (f x : Addr)
 | rng (lo hi : Int)
 | frz (o : Obj) (u : HO)
 | tbl (qs : List (Pos × Str))
 | cod (q : Str)
 | ext (φ : Heap -> Prop)
abbrev Hp := Addr -> Option HO
def upd (H : Hp) (a : Addr) (o : HO) : Hp := fun b => if b = a then some o else H b
theorem a7 {H : Hp} {a : Addr} {o : HO} : upd H a o a = some o := by unfold upd; rw [if_pos rfl]
theorem aQ {H : Hp} {a b : Addr} {o : HO} (h : b ≠ a) : upd H a o b = H b := by unfold upd; rw [if_neg h]
theorem yY {H : Hp} {a : Addr} {o u : HO} : upd (upd H a o) a u = upd H a u := by
 funext b; unfold upd; split <;> rfl
theorem bE {H : Hp} {a b : Addr} {o : HO} (h : H a = some o) (h' : H b = none) : a ≠ b := by
 intro e; subst e; rw [h] at h'; cases h'
section
variable (P : Program) (w : World)
def bZ (H : Hp) (h : Heap) (a : Addr) : HO -> Prop
 | .lst xs => xs.length <= sizeLine /\ ∃ (its : List Value) (n : Nat), bH xs its /\ h.get? a = some { cls := .type "list", data := .seq its.toArray n }
 | .tup xs => xs.length <= sizeLine /\ ∃ its : List Value, bH xs its /\ IsTup h a its.toArray
 | .dK kvs => kvs.length <= sizeLine /\ (a == sysModules) = false /\ ∃ vs, KV kvs vs /\ h.DictOf (c6 P w) a vs
 | .dT kvs => kvs.length <= sizeLine /\ (a == sysModules) = false /\ ∃ xs : List (List Key × Addr × Value),
  Paired (fun (p : List Key × V) (q : List Key × Addr × Value) => p.1 = q.1 /\ H q.2.1 = some (.tup (p.1.map kV)) /\ a5 p.2 q.2.2) kvs xs /\
  ∃ o es ep, h.get? a = some o /\ o.ExactDict /\ o.data = .dict es ep /\ es.toList = xs.map (entryOfKey (tupleKind (c6 P w))) /\ (xs.map (·.1)).Nodup
 | .set S n => h.SetOf (intKind P w) a S n
 | .ins C dx fs => H dx = some (.own a) /\ fs.length <= 1000 /\ dx ≠ a /\ h.get? a = some (PySem.W.instObj C dx) /\
  ∃ mA, h.Ns1 dx mA /\ (∀ f, mV (fs.lookup f) (mA f)) /\ PySem.Within mA (fs.map (·.1))
 | .own _ => ∃ o, h.get? a = some o
 | .xd fs => ∃ mA, h.Ns1 a mA /\ ∀ f, mV (fs.lookup f) (mA f)
 | .rng lo hi => ∃ t u v, h.get? a = some { cls := .type "range", data := .fields #[.int lo t, .int hi u, .int 1 v] }
 | .frz o u => h.get? a = some o /\ bZ H h a u
 | .tbl qs => ∃ ps : Array Value, h.get? a = some { cls := .none, data := .fields ps } /\ TriplesOk ps.toList /\ ∀ p ∈ qs, codeAmong p.1 ps.toList = none \/ ∃ c, codeAmong p.1 ps.toList = some (.ref c) /\ H c = some (.cod p.2)
 | .cod q => h.CodeRec (.ref a) q
 | .met f x => h.get? a = some (PySem.W.methodObj (.ref f) (.ref x))
 | .ext φ => φ h /\ (∃ o, h.get? a = some o) /\ ∀ h1 h2 : Heap, φ h1 -> (∀ o, h1.get? a = some o -> h2.get? a = some o) -> φ h2
def HOk (H : Hp) (h : Heap) : Prop := ∀ a o, H a = some o -> bZ P w H h a o
end
section
variable {P : Program} {w : World} {H H' : Hp} {h h' : Heap} {a : Addr} {o : HO}
theorem bZ.lt (x : bZ P w H h a o) : a < h.objs.size := by
 cases o with
 | lst xs => obtain ⟨_, _, _, _, e⟩ := x; exact Heap.lt_size e
 | tup xs => obtain ⟨_, _, _, p⟩ := x; exact p.lt
 | dK kvs => obtain ⟨_, _, _, _, o, _, _, e, _⟩ := x; exact Heap.lt_size e
 | dT kvs => obtain ⟨_, _, _, _, o, _, _, e, _⟩ := x; exact Heap.lt_size e
 | set S n => obtain ⟨o, _, _, _, e, _⟩ := x; exact Heap.lt_size e
 | ins C dx fs => obtain ⟨_, _, _, e, _⟩ := x; exact Heap.lt_size e
 | own y => obtain ⟨_, e⟩ := x; exact Heap.lt_size e
 | xd fs => obtain ⟨_, ⟨_, _, _, e, _⟩, _⟩ := x; exact Heap.lt_size e
 | rng lo hi => obtain ⟨_, _, _, e⟩ := x; exact Heap.lt_size e
 | frz ob u => obtain ⟨e, _⟩ := x; exact Heap.lt_size e
 | tbl qs => obtain ⟨ps, e, _⟩ := x; exact Heap.lt_size e
 | cod q => obtain ⟨c, o, vs, t, e, ho, _⟩ := x; cases e; exact Heap.lt_size ho
 | met f y => exact Heap.lt_size (show h.get? a = some _ from x)
 | ext φ => obtain ⟨_, ⟨_, e⟩, _⟩ := x; exact Heap.lt_size e
theorem Paired.mapP {α β : Type} {F G : α -> β -> Prop} : ∀ {l₁ : List α} {l₂ : List β}, Paired F l₁ l₂ -> (∀ a b, F a b -> G a b) -> Paired G l₁ l₂
 | _, _, .nil, _ => .nil
 | _, _, .cons r t, f => .cons (f _ _ r) (Paired.mapP t f)
theorem bZ.stay (x : bZ P w H h a o) (k : ∀ b u, (b = a \/ H b = some (.own a)) -> h.get? b = some u -> h'.get? b = some u)
  (ho : ∀ b, H b = some (.own a) -> H' b = some (.own a)) (hc : ∀ b q, H b = some (.cod q) -> H' b = some (.cod q)) (ht : ∀ b xs, H b = some (.tup xs) -> H' b = some (.tup xs)) : bZ P w H' h' a o := by
 induction o with
 | lst xs => obtain ⟨z, its, n, r, e⟩ := x; exact ⟨z, its, n, r, k _ _ (.inl rfl) e⟩
 | tup xs => obtain ⟨z, its, r, ob, e, c⟩ := x; exact ⟨z, its, r, ob, k _ _ (.inl rfl) e, c⟩
 | dK kvs => obtain ⟨z, y, vs, r, ob, es, ep, e, c⟩ := x; exact ⟨z, y, vs, r, ob, es, ep, k _ _ (.inl rfl) e, c⟩
 | dT kvs =>
  obtain ⟨z, y, xs, r, ob, es, ep, e, c⟩ := x
  exact ⟨z, y, xs, Paired.mapP r fun p q z => ⟨z.1, ht _ _ z.2.1, z.2.2⟩, ob, es, ep, k _ _ (.inl rfl) e, c⟩
 | set S n => obtain ⟨ob, es, ep, t, e, c⟩ := x; exact ⟨ob, es, ep, t, k _ _ (.inl rfl) e, c⟩
 | ins C dx fs =>
  obtain ⟨d, z, ne, e, mA, ⟨od, es, ep, e2, c⟩, r⟩ := x
  exact ⟨ho _ d, z, ne, k _ _ (.inl rfl) e, mA, ⟨od, es, ep, k _ _ (.inr d) e2, c⟩, r⟩
 | own y => obtain ⟨ob, e⟩ := x; exact ⟨ob, k _ _ (.inl rfl) e⟩
 | xd fs => obtain ⟨mA, ⟨od, es, ep, e, c⟩, r⟩ := x; exact ⟨mA, ⟨od, es, ep, k _ _ (.inl rfl) e, c⟩, r⟩
 | rng lo hi => obtain ⟨t, u, v, e⟩ := x; exact ⟨t, u, v, k _ _ (.inl rfl) e⟩
 | frz ob u ih => obtain ⟨e, q⟩ := x; exact ⟨k _ _ (.inl rfl) e, ih q⟩
 | tbl qs =>
  obtain ⟨ps, e, t, r⟩ := x
  refine ⟨ps, k _ _ (.inl rfl) e, t, fun p hp => ?_⟩
  rcases r p hp with z | ⟨c, z, z2⟩
  · exact .inl z
  · exact .inr ⟨c, z, hc _ _ z2⟩
 | cod q =>
  obtain ⟨c, o, vs, t, e, ho, r⟩ := x
  cases e
  exact ⟨_, o, vs, t, rfl, k _ _ (.inl rfl) ho, r⟩
 | met f y =>
  have e : h.get? a = some (PySem.W.methodObj (.ref f) (.ref y)) := x
  show h'.get? a = some (PySem.W.methodObj (.ref f) (.ref y))
  exact k a _ (.inl rfl) e
 | ext φ => obtain ⟨p, ⟨o, e⟩, st⟩ := x; exact ⟨st _ _ p fun o q => k _ _ (.inl rfl) q, ⟨o, k _ _ (.inl rfl) e⟩, st⟩
theorem HOk.lt (x : HOk P w H h) (e : H a = some o) : a < h.objs.size := (x a o e).lt
theorem HOk.fresh (x : HOk P w H h) (e : h.objs.size <= a) : H a = none := by
 cases q : H a with
 | none => rfl
 | some u => exact absurd (Nat.lt_of_lt_of_le (x.lt q) e) (Nat.lt_irrefl _)
theorem HOk.kept (x : HOk P w H h) (k : ∀ b u, h.get? b = some u -> h'.get? b = some u) : HOk P w H h' := fun a o e =>
 (x a o e).stay (fun b u _ q => k b u q) (fun _ q => q) (fun _ _ q => q) fun _ _ q => q
theorem HOk.laid (x : HOk P w H h) (k : ∀ b u, h.get? b = some u -> h'.get? b = some u) (hp : h.objs.size <= a) (new : bZ P w (upd H a o) h' a o) : HOk P w (upd H a o) h' := fun b u e => by
 have hn := x.fresh hp
 by_cases hb : b = a
 ·subst hb; rw [a7] at e; cases e; exact new
 ·rw [aQ hb] at e
  exact (x b u e).stay (fun c v _ q => k c v q) (fun c q => by rw [aQ (bE q hn)]; exact q) (fun c xs q => by rw [aQ (bE q hn)]; exact q) fun c xs q => by rw [aQ (bE q hn)]; exact q
end
def Rd (H : Hp) (a : Addr) (u : HO) : Prop := H a = some u \/ ∃ o, H a = some (.frz o u)
theorem Rd.ok {P : Program} {w : World} {H : Hp} {h : Heap} {a : Addr} {u : HO} (r : Rd H a u) (x : HOk P w H h) : bZ P w H h a u := by
 rcases r with r | ⟨o, r⟩
 ·exact x a u r
 ·obtain ⟨_, q⟩ := x a _ r
  exact q
def Mut : Option HO -> Prop
 | some (.lst _) => True
 | some (.dK _) => True
 | some (.dT _) => True
 | some (.set _ _) => True
 | some (.ins _ _ _) => True
 | some (.ext _) => True
 | _ => False
section
variable {P : Program} {w : World} {H : Hp} {h h' : Heap} {x e : Addr} {o' : HO}
theorem HOk.write (ok : HOk P w H h) (mu : Mut (H x)) (he : e = x \/ H e = some (.own x)) (k : ∀ b u, b ≠ e -> h.get? b = some u -> h'.get? b = some u) (heo : ∃ u, h'.get? e = some u)
  (new : bZ P w (upd H x o') h' x o') : HOk P w (upd H x o') h' := fun b u q => by
 have nown : ∀ c y, H c = some (.own y) -> c ≠ x := fun c y r z => by subst z; rw [r] at mu; exact mu
 have ntup : ∀ c xs, H c = some (.tup xs) -> c ≠ x := fun c xs r z => by subst z; rw [r] at mu; exact mu
 have ncod : ∀ c xs, H c = some (.cod xs) -> c ≠ x := fun c xs r z => by subst z; rw [r] at mu; exact mu
 by_cases hb : b = x
 ·subst hb; rw [a7] at q; cases q; exact new
 ·rw [aQ hb] at q
  by_cases hbe : b = e
  ·have q' : H b = some (.own x) := by
    rcases he with z | z
    · exact absurd (hbe.trans z) hb
    · rw [hbe]; exact z
   rw [q] at q'; cases q'
   obtain ⟨v, hv⟩ := heo
   exact ⟨v, by rw [hbe]; exact hv⟩
  ·refine (ok b u q).stay (fun c v hc r => k c v ?_ r) (fun c r => by rw [aQ (nown c b r)]; exact r) (fun c xs r => by rw [aQ (ncod c xs r)]; exact r) fun c xs r => by rw [aQ (ntup c xs r)]; exact r
   rcases hc with rfl | hc
   ·exact hbe
   ·rintro rfl
    rcases he with z | z
    · exact nown c b hc z
    · rw [hc] at z; cases z; exact hb rfl
end
structure Un (fs ex : List Addr) (H H' : Hp) (h h' : Heap) : Prop where
 keep : ∀ b o, h.get? b = some o -> H b = none -> b ∉ fs -> b ∉ ex -> h'.get? b = some o
 slot : ∀ b o, h.get? b = some o -> H b = none -> b ∈ fs -> b ∉ ex -> ∃ sl, h'.get? b = some { o with slots := sl }
 free : ∀ b o, h.get? b = some o -> H b = none -> b ∉ ex -> H' b = none
 there : ∀ b o, h.get? b = some o -> b ∉ ex -> ∃ o', h'.get? b = some o'
 tups : ∀ b xs, H b = some (.tup xs) -> H' b = some (.tup xs)
 frzs : ∀ b o u, H b = some (.frz o u) -> H' b = some (.frz o u)
 tbls : ∀ b ps, H b = some (.tbl ps) -> H' b = some (.tbl ps)
section
variable {fs fs' ex ex' : List Addr} {H H1 H2 : Hp} {h h1 h2 h' : Heap} {a x e : Addr} {o : HO}
theorem Un.any (u : Un fs ex H H1 h h1) {b : Addr} {ob : Obj} (q : h.get? b = some ob) (n : H b = none) (hx : b ∉ ex) : ∃ sl, h1.get? b = some { ob with slots := sl } := by
 by_cases hb : b ∈ fs
 · exact u.slot b ob q n hb hx
 · exact ⟨ob.slots, u.keep b ob q n hb hx⟩
theorem Un.kept (k : ∀ b u, h.get? b = some u -> h'.get? b = some u) : Un fs ex H H h h' :=
 ⟨fun b ob q _ _ _ => k b ob q, fun b ob q _ _ _ => ⟨ob.slots, k b ob q⟩, fun _ _ _ n _ => n, fun b ob q _ => ⟨ob, k b ob q⟩, fun _ _ q => q, fun _ _ _ q => q, fun _ _ q => q⟩
theorem Un.refl : Un fs ex H H h h := Un.kept fun _ _ q => q
theorem Un.laid (k : ∀ b u, h.get? b = some u -> h'.get? b = some u) (hp : h.objs.size <= a) (hn : H a = none) : Un fs ex H (upd H a o) h h' where
 keep := fun b u q _ _ _ => k b u q
 slot := fun b u q _ _ _ => ⟨u.slots, k b u q⟩
 free := fun b u q n _ => by rw [aQ (Nat.ne_of_lt (Nat.lt_of_lt_of_le (Heap.lt_size q) hp))]; exact n
 there := fun b u q _ => ⟨u, k b u q⟩
 tups := fun b xs q => by rw [aQ (bE q hn)]; exact q
 frzs := fun b u xs q => by rw [aQ (bE q hn)]; exact q
 tbls := fun b ps q => by rw [aQ (bE q hn)]; exact q
theorem Un.write (mu : Mut (H x)) (he : e = x \/ H e = some (.own x)) (k : ∀ b u, b ≠ e -> h.get? b = some u -> h'.get? b = some u) (heo : ∃ u, h'.get? e = some u) : Un fs ex H (upd H x o) h h' := by
 have hx : ∀ b, H b = none -> b ≠ x := fun b n z => by subst z; rw [n] at mu; exact mu
 have hb : ∀ b, H b = none -> b ≠ e := fun b n z => by
  subst z
  rcases he with r | r
  · exact hx b n r
  · rw [n] at r; cases r
 have hm : ∀ b u, H b = some u -> ¬ Mut (some u) -> b ≠ x := fun b u q nm z => by subst z; rw [q] at mu; exact nm mu
 refine ⟨fun b u q n _ _ => k b u (hb b n) q, fun b u q n _ _ => ⟨u.slots, k b u (hb b n) q⟩, fun b u q n _ => by rw [aQ (hx b n)]; exact n, fun b u q _ => ?_,
  fun b xs q => by rw [aQ (hm b _ q fun z => z)]; exact q, fun b u xs q => by rw [aQ (hm b _ q fun z => z)]; exact q, fun b ps q => by rw [aQ (hm b _ q fun z => z)]; exact q⟩
 by_cases hbe : b = e
 ·subst hbe; exact heo
 ·exact ⟨u, k b u hbe q⟩
end
def trk (h : Heap) (H : Hp) : List Addr := (List.range h.objs.size).filter fun a => (H a).isSome
def mX (h : Heap) (H : Hp) : Heap := PySem.W.hideAll h (trk h H)
theorem aBX (h : Heap) (H : Hp) : (mX h H).objs.size = h.objs.size := PySem.W.hideAll_size _ _
theorem aDR {h : Heap} {H : Hp} {b : Addr} {o : Obj} (e : h.get? b = some o) (n : H b = none) : (mX h H).get? b = some o :=
 PySem.W.hideAll_get _ e fun hm => by
  have q : (H b).isSome = true := (List.mem_filter.mp hm).2
  rw [n] at q; simp at q
theorem aGA {h : Heap} {H : Hp} {b : Addr} {o : Obj} (e : (mX h H).get? b = some o) : h.get? b = some o /\ H b = none := by
 have e' : h.get? b = some o := PySem.W.of_hideAll (trk h H) e
 refine ⟨e', ?_⟩
 cases q : H b with
 | none => rfl
 | some x =>
  have hm : b ∈ trk h H := List.mem_filter.mpr ⟨List.mem_range.mpr (Heap.lt_size e'), by simp [q]⟩
  have z : (mX h H).get? b = none := PySem.W.hideAll_none (trk h H) hm
  rw [z] at e; cases e
def aGB (g h : Heap) (L : Addr) : List (Addr × Obj) := (List.range h.objs.size).filterMap fun a => if a = L \/ (g.get? a).isSome = true then none else (h.get? a).map fun o => (a, o)
def rest (g h : Heap) (L d : Addr) : List (Addr × Obj) := (aGB g h L).filter fun p => decide (p.1 ≠ d)
end L2
namespace L2
open PySem PySem.Spec PyProof.Rows
structure Mod (K : Frag) (mg : Str -> Option Value) (base : Heap) : Prop where
 kin : K.In base
 glob : base.Ns mainGlobals mg
 blt : ∃ mb, base.Ns builtinsNs mb /\ ∀ x : Str, x ≠ "__name__" -> mb x = bootBuiltins x
 nolimit : base.NoLimit
structure Cx where
 prog : Program
 w : World
 K : Frag
 mg : Str -> Option Value
 base : Heap
 A : Around
 N : List Str
 s₀ : Shared
 H₀ : Hp
 env : Env
 outer : List Env
 stack : List Env
 ex : List Addr
 fn : Str -> Bool
 calm : Bool
 pn : List (Addr × Obj)
 xe : Value -> Shared -> Prop
def frs (l : List Env) : List Addr := l.filterMap (·.frame)
abbrev Cx.fs (X : Cx) : List Addr := frs X.outer
def Vis (sc : Scope) (x : Str) : Prop := sc.names.lookup x = some .local \/ sc.names.lookup x = some .cell \/ sc.names.lookup x = some .free
def Loc (sc : Scope) (x : Str) : Prop := sc.names.lookup x = some .local \/ sc.names.lookup x = some .cell
def aMX (env : Env) (h : Heap) (m : Str -> Option Value) (x : Str) (u : Value) : Prop :=
 (env.kindOf x = some .local /\ m x = some u) \/ ((env.kindOf x = some .cell \/ env.kindOf x = some .free) /\ ∃ c, env.cells.lookup x = some c /\ h.IsCell c (some u))
structure Cx.Ok (X : Cx) : Prop where
 mod : Mod X.K X.mg X.base
 kind : X.env.scope.kind = .function
 glob : X.env.globals = mainGlobals
 blt : X.env.builtins = builtinsNs
 above : X.s₀.heap.objs.size <= X.env.locals
 inj : ∀ x y c, X.env.cells.lookup x = some c -> X.env.cells.lookup y = some c -> x = y
 has : ∀ x, (X.env.kindOf x = some .cell \/ X.env.kindOf x = some .free) -> ∃ c, X.env.cells.lookup x = some c
 cab : ∀ x c, X.fn x = true -> X.env.cells.lookup x = some c -> X.s₀.heap.objs.size <= c
 hd : X.calm = true -> X.A.handled = none
 frames : X.A.frames = some X.stack
 stk : X.stack = X.outer \/ (X.stack = X.env :: X.outer /\ X.env.frame = some X.env.locals)
 exf : ∀ b ∈ X.ex, b ≠ X.env.locals /\ ∀ x c, X.env.cells.lookup x = some c -> c ≠ b
 bs : ∀ b o, X.base.get? b = some o -> X.s₀.heap.get? b = some o /\ X.H₀ b = none
 bsz : X.base.objs.size <= X.s₀.heap.objs.size
 noex : ∀ b o, X.base.get? b = some o -> b ∉ X.ex
 exfs : ∀ b ∈ X.ex, b ∉ X.fs
 funs : X.s₀.heap.FunFrames X.base X.outer
 frf : ∀ b ∈ X.fs, X.H₀ b = none
structure Inv (X : Cx) (pins : List (Addr × Obj)) (σ : List (Option V)) (H : Hp) (s : Shared) : Prop where
 ok : X.Ok
 os : s.os = X.s₀.os
 bare : AllBare s.gens
 base : Un X.fs X.ex X.H₀ H X.s₀.heap s.heap
 loc : ∃ m, s.heap.Ns X.env.locals m /\ ∀ (i : Nat) (x : Str) (v : V), X.N[i]? = some x -> σ[i]? = some (some v) -> Vis X.env.scope x -> ∃ u, a5 v u /\ aMX X.env s.heap m x u
 cell : ∀ x c, X.env.cells.lookup x = some c -> ∃ v, s.heap.IsCell c v
 free : H X.env.locals = none
 freeC : ∀ x c, X.env.cells.lookup x = some c -> H c = none
 pin : ∀ p ∈ X.pn ++ pins, s.heap.get? p.1 = some p.2 /\ H p.1 = none /\ p.1 ≠ X.env.locals /\ p.1 ∉ X.fs /\ ∀ v, p.2.data ≠ .cell v
 hok : HOk X.prog X.w H s.heap
 len : σ.length = X.N.length
section
variable {X : Cx} {pins : List (Addr × Obj)} {σ : List (Option V)} {H H' : Hp} {s : Shared} {h' : Heap}
theorem Cx.Ok.nofr (ok : X.Ok) {b : Addr} {o : Obj} (e : X.base.get? b = some o) : b ∉ X.fs := fun hb => by
 have := (ok.funs.mem hb).1
 rw [e] at this; cases this
theorem Inv.bs (I : Inv X pins σ H s) : ∀ b o, X.base.get? b = some o -> s.heap.get? b = some o /\ H b = none := fun b o e =>
 ⟨I.base.keep b o (I.ok.bs b o e).1 (I.ok.bs b o e).2 (I.ok.nofr e) (I.ok.noex b o e), I.base.free b o (I.ok.bs b o e).1 (I.ok.bs b o e).2 (I.ok.noex b o e)⟩
theorem Inv.bk (I : Inv X pins σ H s) : ∀ b o, X.base.get? b = some o -> s.heap.get? b = some o := fun b o e => (I.bs b o e).1
theorem Inv.mod (I : Inv X pins σ H s) : Mod X.K X.mg X.base := I.ok.mod
theorem Inv.kIn (I : Inv X pins σ H s) : X.K.In s.heap := I.ok.mod.kin.keeps I.bk
theorem Inv.lt (I : Inv X pins σ H s) : X.env.locals < s.heap.objs.size := let ⟨_, hn, _⟩ := I.loc; hn.lt
theorem Inv.sz (I : Inv X pins σ H s) : X.s₀.heap.objs.size <= s.heap.objs.size := Nat.le_trans I.ok.above (Nat.le_of_lt I.lt)
theorem Inv.nofs (I : Inv X pins σ H s) {a : Addr} (h : s.heap.objs.size <= a) : a ∉ X.fs := fun hb => by
 obtain ⟨_, o, ho, _⟩ := I.ok.funs.mem hb
 exact absurd (Nat.lt_of_lt_of_le (Heap.lt_size ho) (Nat.le_trans I.sz h)) (Nat.lt_irrefl _)
theorem Inv.cne (I : Inv X pins σ H s) : ∀ x c, X.env.cells.lookup x = some c -> c ≠ X.env.locals := fun x c e z => by
 obtain ⟨v, o, ho, hd⟩ := I.cell x c e
 obtain ⟨m, ⟨o', es, ep, ho', hd', _⟩, _⟩ := I.loc
 rw [z, ho'] at ho; cases ho; rw [hd'] at hd; cases hd
theorem Inv.funs (I : Inv X pins σ H s) : s.heap.FunFrames X.base X.outer := by
 have all : ∀ (l : List Env), (∀ b ∈ frs l, b ∈ X.fs) -> X.s₀.heap.FunFrames X.base l -> s.heap.FunFrames X.base l := by
  intro l
  induction l with
  | nil => intro _ _; trivial
  | cons env r ih =>
   intro hs hl
   obtain ⟨hk, ⟨L, o, hf, hn, ho, hd⟩, hr⟩ := hl
   have hL : L ∈ X.fs := hs L (by unfold frs; rw [List.filterMap_cons, hf]; exact List.mem_cons_self)
   obtain ⟨sl, e⟩ := I.base.slot L o ho (I.ok.frf L hL) hL fun z => I.ok.exfs L z hL
   exact ⟨hk, ⟨L, _, hf, hn, e, hd⟩, ih (fun b hb => hs b (by unfold frs; rw [List.filterMap_cons, hf]; exact List.mem_cons_of_mem _ hb)) hr⟩
 exact all X.outer (fun _ hb => hb) I.ok.funs
theorem Inv.stack (I : Inv X pins σ H s) : s.heap.FunFrames X.base X.stack := by
 rcases I.ok.stk with e | ⟨e, hf⟩
 ·rw [e]; exact I.funs
 ·rw [e]
  obtain ⟨m, hn, _⟩ := I.loc
  refine .cons (by rw [I.ok.kind]; decide) hf hn ?_ I.funs
  exact Heap.get?_none_of_le (Nat.le_trans I.ok.bsz I.ok.above)
theorem Inv.stkSub (I : Inv X pins σ H s) : ∀ b ∈ frs X.stack, b ∈ X.env.locals :: X.fs := fun b hb => by
 rcases I.ok.stk with e | ⟨e, hf⟩
 ·rw [e] at hb; exact List.mem_cons_of_mem _ hb
 ·rw [e] at hb
  unfold frs at hb
  rw [List.filterMap_cons, hf] at hb
  exact hb
theorem Inv.stkFree (I : Inv X pins σ H s) : ∀ b ∈ frs X.stack, H b = none := fun b hb => by
 rcases List.mem_cons.mp (I.stkSub b hb) with e | hb
 ·rw [e]; exact I.free
 ·obtain ⟨_, o, ho, _⟩ := I.ok.funs.mem hb
  exact I.base.free b o ho (I.ok.frf b hb) fun z => I.ok.exfs b z hb
theorem Inv.step {g' : Array GenState} {t' : Nat} {d' : Drawn} {ch : List Addr} (I : Inv X pins σ H s)
  (hch : ∀ b ∈ ch, (b ∈ X.ex \/ X.s₀.heap.objs.size <= b) /\ b ≠ X.env.locals /\ (∀ x c, X.env.cells.lookup x = some c -> c ≠ b) /\ ∀ p ∈ X.pn ++ pins, p.1 ≠ b)
  (keep : ∀ b o, b ≠ X.env.locals -> b ∉ X.fs -> b ∉ ch -> s.heap.get? b = some o -> H b = none -> h'.get? b = some o)
  (slot : ∀ b o, b ≠ X.env.locals -> b ∈ X.fs -> b ∉ ch -> s.heap.get? b = some o -> H b = none -> ∃ sl, h'.get? b = some { o with slots := sl }) (free : ∀ b o, b ∉ ch -> s.heap.get? b = some o -> H b = none -> H' b = none)
  (there : ∀ b o, b ∉ ch -> s.heap.get? b = some o -> ∃ o', h'.get? b = some o')
  (tups : ∀ b xs, H b = some (.tup xs) -> H' b = some (.tup xs)) (frzs : ∀ b o u, H b = some (.frz o u) -> H' b = some (.frz o u)) (tbls : ∀ b ps, H b = some (.tbl ps) -> H' b = some (.tbl ps))
  (ns : ∀ m, s.heap.Ns X.env.locals m -> h'.Ns X.env.locals m) (hok : HOk X.prog X.w H' h') (hg : AllBare g') :
  Inv X pins σ H' { s with heap := h', gens := g', drawn := d', toks := t' } := by
 have neL : ∀ b o, X.s₀.heap.get? b = some o -> b ≠ X.env.locals := fun b o e => Nat.ne_of_lt (Nat.lt_of_lt_of_le (Heap.lt_size e) I.ok.above)
 have neC : ∀ b o, X.s₀.heap.get? b = some o -> b ∉ X.ex -> b ∉ ch := fun b o e hx hb => by
  rcases (hch b hb).1 with z | z
  ·exact hx z
  ·exact absurd (Nat.lt_of_lt_of_le (Heap.lt_size e) z) (Nat.lt_irrefl _)
 have cellK : ∀ x c, X.env.cells.lookup x = some c -> ∀ v, s.heap.IsCell c v -> h'.IsCell c v := fun x c e v ⟨o, ho, hd⟩ => by
  have nch : c ∉ ch := fun z => (hch c z).2.2.1 x c e rfl
  by_cases hc : c ∈ X.fs
  ·obtain ⟨sl, q⟩ := slot c o (I.cne x c e) hc nch ho (I.freeC x c e)
   exact ⟨_, q, hd⟩
  ·exact ⟨o, keep c o (I.cne x c e) hc nch ho (I.freeC x c e), hd⟩
 refine ⟨I.ok, I.os, hg, ⟨fun b o e n hb hx => ?_, fun b o e n hb hx => ?_, fun b o e n hx => ?_, fun b o e hx => ?_, fun b xs e => tups b xs (I.base.tups b xs e), fun b o xs e => frzs b o xs (I.base.frzs b o xs e), fun b ps e => ?_⟩, ?_, fun x c e => ?_, ?_, fun x c e => ?_, fun p hp => ?_, hok, I.len⟩
 ·exact keep b o (neL b o e) hb (neC b o e hx) (I.base.keep b o e n hb hx) (I.base.free b o e n hx)
 ·obtain ⟨sl, e1⟩ := I.base.slot b o e n hb hx
  obtain ⟨sl', e2⟩ := slot b _ (neL b o e) hb (neC b o e hx) e1 (I.base.free b o e n hx)
  exact ⟨sl', e2⟩
 ·obtain ⟨o', e1⟩ := I.base.there b o e hx
  exact free b o' (neC b o e hx) e1 (I.base.free b o e n hx)
 ·obtain ⟨o', e1⟩ := I.base.there b o e hx
  exact there b o' (neC b o e hx) e1
 ·exact tbls b ps (I.base.tbls b ps e)
 ·obtain ⟨m, hn, hl⟩ := I.loc
  refine ⟨m, ns m hn, fun i x v e1 e2 e3 => ?_⟩
  obtain ⟨u, r, l⟩ := hl i x v e1 e2 e3
  refine ⟨u, r, ?_⟩
  rcases l with l | ⟨k, c, e, z⟩
  ·exact .inl l
  ·exact .inr ⟨k, c, e, cellK x c e _ z⟩
 ·obtain ⟨v, z⟩ := I.cell x c e
  exact ⟨v, cellK x c e v z⟩
 ·obtain ⟨m, ⟨o, _, _, ho, _⟩, _⟩ := I.loc
  exact free _ o (fun z => (hch _ z).2.1 rfl) ho I.free
 ·obtain ⟨v, o, ho, hd⟩ := I.cell x c e
  exact free c o (fun z => (hch c z).2.2.1 x c e rfl) ho (I.freeC x c e)
 ·obtain ⟨e, n, ne, nf, d⟩ := I.pin p hp
  have nch : p.1 ∉ ch := fun z => (hch p.1 z).2.2.2 p hp rfl
  exact ⟨keep p.1 p.2 ne nf nch e n, free p.1 p.2 nch e n, ne, nf, d⟩
theorem Inv.un {t' : Nat} (I : Inv X pins σ H s) (u : Un X.fs [] H H' s.heap h') (hok : HOk X.prog X.w H' h') : Inv X pins σ H' { s with heap := h', toks := t' } := by
 obtain ⟨m, ⟨o, es, ep, ho, r⟩, _⟩ := id I.loc
 obtain ⟨sl, hL⟩ := u.any ho I.free (by simp)
 exact I.step (g' := s.gens) (d' := s.drawn) (ch := []) (fun _ z => nomatch z) (fun b o _ hb _ e n => u.keep b o e n hb (by simp)) (fun b o _ hb _ e n => u.slot b o e n hb (by simp)) (fun b o _ e n => u.free b o e n (by simp)) (fun b o _ e => u.there b o e (by simp)) u.tups u.frzs u.tbls (fun m' hm => by
  obtain ⟨o', es', ep', ho', r'⟩ := hm
  rw [ho] at ho'; cases ho'
  exact ⟨_, es', ep', hL, r'⟩) hok I.bare
theorem Inv.call {g' : Array GenState} {t' : Nat} {d' : Drawn} {ch : List Addr} (I : Inv X pins σ H s) (u : Un (frs X.stack) ch H H' s.heap h') (hok : HOk X.prog X.w H' h') (hg : AllBare g')
  (hch : ∀ b ∈ ch, (b ∈ X.ex \/ X.s₀.heap.objs.size <= b) /\ b ≠ X.env.locals /\ (∀ x c, X.env.cells.lookup x = some c -> c ≠ b) /\ ∀ p ∈ X.pn ++ pins, p.1 ≠ b) :
  Inv X pins σ H' { s with heap := h', gens := g', drawn := d', toks := t' } := by
 obtain ⟨m, ⟨o, es, ep, ho, r⟩, _⟩ := id I.loc
 obtain ⟨sl, hL⟩ := u.any ho I.free fun z => (hch _ z).2.1 rfl
 exact I.step (ch := ch) hch (fun b o hL hb hc e n => u.keep b o e n (fun z => (List.mem_cons.mp (I.stkSub b z)).elim hL hb) hc) (fun b o _ _ hc e n => u.any e n hc) (fun b o hc e n => u.free b o e n hc) (fun b o hc e => u.there b o e hc) u.tups u.frzs u.tbls (fun m' hm => by
  obtain ⟨o', es', ep', ho', r'⟩ := hm
  rw [ho] at ho'; cases ho'
  exact ⟨_, es', ep', hL, r'⟩) hok hg
theorem Inv.turned {t' : Nat} {it : Addr} (I : Inv X pins σ H s) (k : ∀ b o, b ≠ it -> s.heap.get? b = some o -> h'.get? b = some o) (hn : H it = none) (hL : it ≠ X.env.locals)
  (h1 : it ∈ X.ex \/ X.s₀.heap.objs.size <= it) (h2 : ∀ x c, X.env.cells.lookup x = some c -> c ≠ it) (h3 : ∀ p ∈ X.pn ++ pins, p.1 ≠ it) : Inv X pins σ H { s with heap := h', toks := t' } := by
 have nit : ∀ b u, H b = some u -> b ≠ it := fun b u e z => by rw [z, hn] at e; cases e
 refine I.step (g' := s.gens) (d' := s.drawn) (ch := [it]) (fun b hb => ?_) (fun b o _ _ hc e _ => k b o (fun z => hc (by simp [z])) e) (fun b o _ _ hc e _ => ⟨o.slots, k b o (fun z => hc (by simp [z])) e⟩) (fun _ _ _ _ n => n)
  (fun b o hc e => ⟨o, k b o (fun z => hc (by simp [z])) e⟩) (fun _ _ e => e) (fun _ _ _ e => e) (fun _ _ e => e) (fun m hm => ?_) (fun b u e => ?_) I.bare
 ·have e : b = it := by simpa using hb
  subst e
  exact ⟨h1, hL, h2, h3⟩
 ·obtain ⟨o, es, ep, ho, r⟩ := hm
  exact ⟨o, es, ep, k _ o (Ne.symm hL) ho, r⟩
 ·refine (I.hok b u e).stay (fun c v hc q => k c v ?_ q) (fun _ q => q) (fun _ _ q => q) fun _ _ q => q
  rcases hc with z | z
  · rw [z]; exact nit b u e
  · exact nit c _ z
theorem Inv.tok (I : Inv X pins σ H s) (t : Nat) : Inv X pins σ H { s with toks := t } := I.un (h' := s.heap) (t' := t) Un.refl I.hok
theorem Inv.kept {t' : Nat} (I : Inv X pins σ H s) (k : ∀ b u, s.heap.get? b = some u -> h'.get? b = some u) : Inv X pins σ H { s with heap := h', toks := t' } := I.un (Un.kept k) (I.hok.kept k)
theorem Inv.laid {a : Addr} {o : HO} {t' : Nat} (I : Inv X pins σ H s) (k : ∀ b u, s.heap.get? b = some u -> h'.get? b = some u) (hp : s.heap.objs.size <= a) (new : bZ X.prog X.w (upd H a o) h' a o) :
 Inv X pins σ (upd H a o) { s with heap := h', toks := t' } := I.un (Un.laid k hp (I.hok.fresh hp)) (I.hok.laid k hp new)
theorem Inv.write {x e : Addr} {o : HO} {t' : Nat} (I : Inv X pins σ H s) (mu : Mut (H x)) (he : e = x \/ H e = some (.own x)) (k : ∀ b u, b ≠ e -> s.heap.get? b = some u -> h'.get? b = some u) (heo : ∃ u, h'.get? e = some u)
 (new : bZ X.prog X.w (upd H x o) h' x o) : Inv X pins σ (upd H x o) { s with heap := h', toks := t' } := I.un (Un.write mu he k heo) (I.hok.write mu he k heo new)
theorem Inv.pins_of {pins' : List (Addr × Obj)} (I : Inv X pins σ H s) (h : ∀ p ∈ pins', s.heap.get? p.1 = some p.2 /\ H p.1 = none /\ p.1 ≠ X.env.locals /\ p.1 ∉ X.fs /\ ∀ v, p.2.data ≠ .cell v) : Inv X pins' σ H s :=
 ⟨I.ok, I.os, I.bare, I.base, I.loc, I.cell, I.free, I.freeC, fun p hp => (List.mem_append.mp hp).elim (fun z => I.pin p (List.mem_append_left _ z)) (h p), I.hok, I.len⟩
theorem rK {N : List Str} (hN : N.Nodup) {i j : Nat} {x : Str} (a : N[i]? = some x) (b : N[j]? = some x) : i = j := by
 obtain ⟨h1, e1⟩ := List.getElem?_eq_some_iff.mp a
 obtain ⟨h2, e2⟩ := List.getElem?_eq_some_iff.mp b
 exact (List.getElem_inj hN).mp (e1.trans e2.symm)
theorem u1 {M : Model} {A : Around} {E : Value -> Shared -> Prop} {i : Nat} {x : Str} {v : V} {u : Value} {Q : Unit -> Shared -> Prop} (I : Inv X pins σ H s) (hN : X.N.Nodup) (hi : X.N[i]? = some x) (hx : Loc X.env.scope x) (r : a5 v u)
  (h : ∀ s', Inv X pins (σ.set i (some v)) H s' -> (∃ a, Heap.SameBut a s.heap s'.heap /\ (a = X.env.locals \/ X.env.cells.lookup x = some a)) -> Q () s') (hf : X.fn x = true \/ X.env.scope.names.lookup x = some .local := by first | exact .inl rfl | exact .inr rfl | assumption) : wpAny M A (storeName X.env x u) Q E s := by
 obtain ⟨m, hn, hl⟩ := id I.loc
 have hcls : (X.env.scope.kind == .class || (X.env.scope.kind == .module && X.env.locals != X.env.globals)) = false := by rw [I.ok.kind]; rfl
 have hiσ : i < σ.length := by rw [I.len]; exact (List.getElem?_eq_some_iff.mp hi).1
 have cne := I.cne
 have tracked : ∀ {a : Addr} {h' : Heap}, (∃ o, s.heap.get? a = some o /\ H a = none) -> Heap.SameBut a s.heap h' -> HOk X.prog X.w H h' := fun {a h'} ha hs b ob e => by
  obtain ⟨_, _, hfree⟩ := ha
  refine (I.hok b ob e).stay (fun c w' hc q => (hs.2 c ?_).trans q) (fun _ q => q) (fun _ _ q => q) fun _ _ q => q
  rintro rfl
  rcases hc with rfl | hc
  ·rw [hfree] at e; cases e
  ·rw [hfree] at hc; cases hc
 rcases hx with hk | hk
 ·refine wpAny_storeName_local hk hn (fun h' hn' hs => ?_) hcls
  obtain ⟨oL, _, _, hoL, _⟩ := id hn
  refine h _ ⟨I.ok, I.os, I.bare, ⟨fun b o e n hb hx => ?_, fun b o e n hb hx => ?_, I.base.free, fun b o e hx => ?_, I.base.tups, I.base.frzs, I.base.tbls⟩, ⟨_, hn', fun j y v' e1 e2 e3 => ?_⟩, fun y c e => ?_, I.free, I.freeC, fun p hp => ?_, tracked ⟨oL, hoL, I.free⟩ hs, by simpa using I.len⟩ ⟨_, hs, .inl rfl⟩
  ·exact (hs.2 b (Nat.ne_of_lt (Nat.lt_of_lt_of_le (Heap.lt_size e) I.ok.above))).trans (I.base.keep b o e n hb hx)
  ·obtain ⟨sl, e1⟩ := I.base.slot b o e n hb hx
   exact ⟨sl, (hs.2 b (Nat.ne_of_lt (Nat.lt_of_lt_of_le (Heap.lt_size e) I.ok.above))).trans e1⟩
  ·obtain ⟨o', e1⟩ := I.base.there b o e hx
   exact ⟨o', (hs.2 b (Nat.ne_of_lt (Nat.lt_of_lt_of_le (Heap.lt_size e) I.ok.above))).trans e1⟩
  ·by_cases hj : j = i
   ·subst hj
    rw [hi] at e1; cases e1
    rw [List.getElem?_set_self hiσ] at e2
    cases e2
    exact ⟨u, r, .inl ⟨hk, by simp⟩⟩
   ·rw [List.getElem?_set_ne (Ne.symm hj)] at e2
    obtain ⟨u', r', q⟩ := hl j y v' e1 e2 e3
    refine ⟨u', r', ?_⟩
    rcases q with ⟨k, e⟩ | ⟨k, c, e, z⟩
    ·refine .inl ⟨k, ?_⟩
     have : y ≠ x := fun e => hj (rK hN e1 (e ▸ hi))
     simp [this, e]
    ·exact .inr ⟨k, c, e, z.sameBut hs (cne y c e)⟩
  ·obtain ⟨w', z⟩ := I.cell y c e
   exact ⟨w', z.sameBut hs (cne y c e)⟩
  ·obtain ⟨e, n, ne, nf, d⟩ := I.pin p hp
   exact ⟨(hs.2 p.1 ne).trans e, n, ne, nf, d⟩
 ·have hfn : X.fn x = true := by
   rcases hf with z | z
   ·exact z
   ·rw [z] at hk; cases hk
  obtain ⟨c, hc⟩ := I.ok.has x (.inl hk)
  obtain ⟨w', z⟩ := I.cell x c hc
  refine wpAny_storeName_cell I.ok.kind hk hc z (fun h' hc' hs => ?_)
  obtain ⟨oc, hoc, hocd⟩ := id z
  refine h { s with heap := h' } ⟨I.ok, I.os, I.bare, ⟨fun b o e n hb hx => ?_, fun b o e n hb hx => ?_, I.base.free, fun b o e hx => ?_, I.base.tups, I.base.frzs, I.base.tbls⟩, ⟨m, hn.sameBut hs (Ne.symm (cne x c hc)), fun j y v' e1 e2 e3 => ?_⟩, fun y c' e => ?_, I.free, I.freeC, fun p hp => ?_, tracked ⟨oc, hoc, I.freeC x c hc⟩ hs, by simpa using I.len⟩ ⟨c, hs, .inr hc⟩
  ·exact (hs.2 b (Nat.ne_of_lt (Nat.lt_of_lt_of_le (Heap.lt_size e) (I.ok.cab x c hfn hc)))).trans (I.base.keep b o e n hb hx)
  ·obtain ⟨sl, e1⟩ := I.base.slot b o e n hb hx
   exact ⟨sl, (hs.2 b (Nat.ne_of_lt (Nat.lt_of_lt_of_le (Heap.lt_size e) (I.ok.cab x c hfn hc)))).trans e1⟩
  ·obtain ⟨o', e1⟩ := I.base.there b o e hx
   exact ⟨o', (hs.2 b (Nat.ne_of_lt (Nat.lt_of_lt_of_le (Heap.lt_size e) (I.ok.cab x c hfn hc)))).trans e1⟩
  ·by_cases hj : j = i
   ·subst hj
    rw [hi] at e1; cases e1
    rw [List.getElem?_set_self hiσ] at e2
    cases e2
    exact ⟨u, r, .inr ⟨.inl hk, c, hc, hc'⟩⟩
   ·rw [List.getElem?_set_ne (Ne.symm hj)] at e2
    obtain ⟨u', r', q⟩ := hl j y v' e1 e2 e3
    refine ⟨u', r', ?_⟩
    rcases q with q | ⟨k, c', e, z'⟩
    ·exact .inl q
    ·refine .inr ⟨k, c', e, z'.sameBut hs ?_⟩
     rintro rfl
     exact hj (rK hN e1 (I.ok.inj _ _ _ e hc ▸ hi))
  ·by_cases hcc : c' = c
   ·subst hcc; exact ⟨_, hc'⟩
   ·obtain ⟨w2, z2⟩ := I.cell y c' e
    exact ⟨w2, z2.sameBut hs hcc⟩
  ·obtain ⟨e, n, ne, nf, d⟩ := I.pin p hp
   refine ⟨(hs.2 p.1 ?_).trans e, n, ne, nf, d⟩
   intro q
   rw [q, hoc] at e
   have q' : oc = p.2 := Option.some.inj e
   exact d w' (by rw [<- q']; exact hocd)
theorem lQ {M : Model} {A : Around} {E : Value -> Shared -> Prop} {i : Nat} {x : Str} {v : V} {u : Value} {Q : Unit -> Shared -> Prop} (I : Inv X pins σ H s) (hN : X.N.Nodup) (hi : X.N[i]? = some x) (hx : Loc X.env.scope x) (r : a5 v u)
  (h : ∀ s', Inv X pins (σ.set i (some v)) H s' -> Q () s') (hf : X.fn x = true \/ X.env.scope.names.lookup x = some .local := by first | exact .inl rfl | exact .inr rfl | assumption) : wpAny M A (storeName X.env x u) Q E s :=
 u1 I hN hi hx r (fun s' I' _ => h s' I') hf
theorem Inv.call' {s' : Shared} {ch : List Addr} (I : Inv X pins σ H s) (ho : s'.os = s.os) (u : Un (frs X.stack) ch H H' s.heap s'.heap) (hok : HOk X.prog X.w H' s'.heap) (hg : AllBare s'.gens)
  (hch : ∀ b ∈ ch, (b ∈ X.ex \/ X.s₀.heap.objs.size <= b) /\ b ≠ X.env.locals /\ (∀ x c, X.env.cells.lookup x = some c -> c ≠ b) /\ ∀ p ∈ X.pn ++ pins, p.1 ≠ b) : Inv X pins σ H' s' := by
 obtain ⟨h', g', d', t', o'⟩ := s'
 have e : o' = s.os := ho
 subst e
 exact I.call (g' := g') (t' := t') (d' := d') u hok hg hch
end
abbrev XK := Value -> Option Addr -> Hp -> Prop
abbrev St := List (Option V)
abbrev VK := V -> Hp -> Prop
abbrev TE := St -> Hp -> VK -> Prop
abbrev TT := St -> Hp -> (Bool -> Hp -> Prop) -> Prop
abbrev TA := St -> Hp -> (List V -> Hp -> Prop) -> Prop
structure iQ where
 nx : St -> Hp -> Prop
 rt : VK
 bk : St -> Hp -> Prop := fun _ _ => False
 ct : St -> Hp -> Prop := fun _ _ => False
abbrev TS := iQ -> St -> Hp -> Prop
def EP (X : Cx) (pins : List (Addr × Obj)) (σ : St) (Q : VK) (u : Value) (s' : Shared) : Prop := ∃ v H', Inv X pins σ H' s' /\ a5 v u /\ Q v H'
def TP (X : Cx) (pins : List (Addr × Obj)) (σ : St) (Q : Bool -> Hp -> Prop) (b : Bool) (s' : Shared) : Prop := ∃ H', Inv X pins σ H' s' /\ Q b H'
def AP (X : Cx) (pins : List (Addr × Obj)) (σ : St) (Q : List V -> Hp -> Prop) (us : List Value) (s' : Shared) : Prop := ∃ vs H', Inv X pins σ H' s' /\ bH vs us /\ Q vs H'
def SP (X : Cx) (pins : List (Addr × Obj)) (D : iQ) (f : Flow) (s' : Shared) : Prop :=
 match f with
 | .next => ∃ σ' H', Inv X pins σ' H' s' /\ D.nx σ' H'
 | .brk => ∃ σ' H', Inv X pins σ' H' s' /\ D.bk σ' H'
 | .cont => ∃ σ' H', Inv X pins σ' H' s' /\ D.ct σ' H'
 | .ret u => ∃ v σ' H', Inv X pins σ' H' s' /\ a5 v u /\ D.rt v H'
def PE (X : Cx) (e : Expr) (t : TE) : Prop :=
 ∀ (pins : List (Addr × Obj)) (s : Shared) (σ : St) (H : Hp) (Q : VK), Inv X pins σ H s -> t σ H Q -> wpAny (model X.prog X.w) X.A (eval e X.env) (EP X pins σ Q) X.xe s
def PT (X : Cx) (e : Expr) (t : TT) : Prop :=
 ∀ (pins : List (Addr × Obj)) (s : Shared) (σ : St) (H : Hp) (Q : Bool -> Hp -> Prop), Inv X pins σ H s -> t σ H Q -> wpAny (model X.prog X.w) X.A (isTrue e X.env (eval e X.env)) (TP X pins σ Q) X.xe s
def PW (X : Cx) (e : Expr) (t : TT) : Prop :=
 ∀ (whole : Sem Value) (pins : List (Addr × Obj)) (s : Shared) (σ : St) (H : Hp) (Q : Bool -> Hp -> Prop), Inv X pins σ H s -> t σ H Q -> wpAny (model X.prog X.w) X.A (isTrue e X.env whole) (TP X pins σ Q) X.xe s
theorem PW.pt {X : Cx} {e : Expr} {t : TT} (h : PW X e t) : PT X e t := h _
def PA (X : Cx) (es : List Expr) (t : TA) : Prop :=
 ∀ (pos : Pos) (pins : List (Addr × Obj)) (s : Shared) (σ : St) (H : Hp) (Q : List V -> Hp -> Prop), Inv X pins σ H s -> t σ H Q -> wpAny (model X.prog X.w) X.A (spliced (backTo pos (starEach es X.env))) (AP X pins σ Q) X.xe s
def PS (X : Cx) (st : Stmt) (t : TS) : Prop :=
 ∀ (pins : List (Addr × Obj)) (s : Shared) (σ : St) (H : Hp) (D : iQ), Inv X pins σ H s -> t D σ H -> wpAny (model X.prog X.w) X.A (exec st X.env) (SP X pins D) X.xe s
def PSs (X : Cx) (st : List Stmt) (t : TS) : Prop :=
 ∀ (pins : List (Addr × Obj)) (s : Shared) (σ : St) (H : Hp) (D : iQ), Inv X pins σ H s -> t D σ H -> wpAny (model X.prog X.w) X.A (execs st X.env) (SP X pins D) X.xe s
theorem thn {α : Type} {t : Sem α} {Q Q' : α -> Shared -> Prop} {M : Model} {A : Around} {E : Value -> Shared -> Prop} {s : Shared} (h : wpAny M A t Q E s) (hQ : ∀ a s, Q a s -> Q' a s) : wpAny M A t Q' E s := wpAny_mono h hQ fun _ _ x => x
end L2
namespace L2
open PySem PySem.Spec PyProof.Rows
section
variable {X : Cx}
theorem bin {a b : Expr} {ta tb : TE} (ha : PE X a ta) (hb : PE X b tb) {pins : List (Addr × Obj)} {s : Shared} {σ : St} {H : Hp} {R : V -> V -> Hp -> Prop} (I : Inv X pins σ H s) (h : ta σ H fun x H1 => tb σ H1 fun y H2 => R x y H2)
  {α : Type} {Q : α -> Shared -> Prop} {f : Value -> Value -> Sem α}
  (hf : ∀ v u s2 x y H2, Inv X pins σ H2 s2 -> a5 x v -> a5 y u -> R x y H2 -> wpAny (model X.prog X.w) X.A (f v u) Q X.xe s2) :
  wpAny (model X.prog X.w) X.A (eval a X.env) (fun v s₁ => wpAny (model X.prog X.w) X.A (eval b X.env) (fun u s₂ => wpAny (model X.prog X.w) X.A (f v u) Q X.xe s₂) X.xe s₁) X.xe s := by
 refine thn (ha pins s σ H _ I h) fun v s1 ⟨x, H1, I1, r1, q1⟩ => ?_
 refine thn (hb pins s1 σ H1 _ I1 q1) fun u s2 ⟨y, H2, I2, r2, q2⟩ => ?_
 exact hf v u s2 x y H2 I2 r1 r2 q2
def jN (i : Nat) : TE := fun σ H Q => ∃ v, σ[i]? = some (some v) /\ Q v H
def tC (v : V) : TE := fun _ H Q => Q v H
theorem aIO {i : Nat} {x : Str} {pos : Pos} (hN : X.N[i]? = some x) (hv : Vis X.env.scope x) (hd : (x == ("__debug__" : Str)) = false := by decide) (hcd : (x == ("__classdict__" : Str)) = false := by decide) : PE X (.Name x pos) (jN i) := by
 intro pins s σ H Q I h
 obtain ⟨v, e, h⟩ := h
 obtain ⟨m, hn, hl⟩ := I.loc
 obtain ⟨u, r, l⟩ := hl i x v hN e hv
 have fin : EP X pins σ Q u s := ⟨v, H, I, r, h⟩
 rcases l with ⟨hk, hm⟩ | ⟨hk, c, hc, hcell⟩
 ·exact wpAny_Name (wpAny_loadName_local I.ok.kind hk hn hm fin) hd
 ·rcases hk with hk | hk
  · exact wpAny_Name (wpAny_loadName_cell I.ok.kind hk hc hcell fin) hd
  · exact wpAny_Name (wpAny_loadName_free I.ok.kind hk hc hcell fin hcd) hd
theorem aIP {i j pos} : PE X (.Constant (.int i) j pos) (tC (.int i)) := fun _ _ _ H _ I h => wpAny_Constant_int ⟨.int i, H, I.tok _, ⟨_, rfl⟩, h⟩
theorem aLS {b j pos} : PE X (.Constant (.bool b) j pos) (tC (.bl b)) := fun _ _ _ H _ I h => Constant_bool ⟨.bl b, H, I, rfl, h⟩
theorem aIQ {j pos} : PE X (.Constant .none j pos) (tC .non) := fun _ _ _ H _ I h => Constant_none ⟨.non, H, I, rfl, h⟩
theorem wG {x j pos} : PE X (.Constant (.str x) j pos) (tC (.str x)) := fun _ _ _ H _ I h => Calls.Constant_str ⟨.str x, H, I.tok _, ⟨_, rfl⟩, h⟩
def Gl (X : Cx) (x : Str) : Prop := X.env.kindOf x = some .globalImplicit
theorem lH {E : Value -> Shared -> Prop} {pins : List (Addr × Obj)} {s : Shared} {σ : St} {H : Hp} {x : Str} {u : Value} {pos : Pos} {Q : Value -> Shared -> Prop} (I : Inv X pins σ H s) (hg : Gl X x) (hm : X.mg x = some u) (h : Q u s)
  (hd : (x == ("__debug__" : Str)) = false := by decide) : wpAny (model X.prog X.w) X.A (eval (.Name x pos) X.env) Q E s :=
 Calls.Name_function_global I.ok.kind hg (Calls.loadGlobal_global (by rw [I.ok.glob]; exact I.mod.glob.keeps I.bk) hm h) hd
theorem sM {E : Value -> Shared -> Prop} {pins : List (Addr × Obj)} {s : Shared} {σ : St} {H : Hp} {x : Str} {u : Value} {pos : Pos} {Q : Value -> Shared -> Prop} (I : Inv X pins σ H s) (hg : Gl X x) (hm : X.mg x = none) (hv : bootBuiltins x = some u) (h : Q u s)
  (hn : x ≠ "__name__" := by decide) (hd : (x == ("__debug__" : Str)) = false := by decide) : wpAny (model X.prog X.w) X.A (eval (.Name x pos) X.env) Q E s := by
 obtain ⟨mb, h1, h2⟩ := I.mod.blt
 exact Calls.Name_function_global I.ok.kind hg (Calls.loadGlobal_builtin (by rw [I.ok.glob]; exact I.mod.glob.keeps I.bk) hm (by rw [I.ok.blt]; exact h1.keeps I.bk) ((h2 x hn).trans hv) h) hd
theorem mZ {x : Str} {v : V} {u : Value} {pos : Pos} (hg : Gl X x) (hm : X.mg x = some u) (r : a5 v u) (hd : (x == ("__debug__" : Str)) = false := by decide) : PE X (.Name x pos) (tC v) :=
 fun _ _ _ H _ I h => lH I hg hm ⟨v, H, I, r, h⟩ hd
theorem iD {x : Str} {v : V} {u : Value} {pos : Pos} (hg : Gl X x) (hm : X.mg x = none) (hv : bootBuiltins x = some u) (r : a5 v u) (hn : x ≠ "__name__" := by decide) (hd : (x == ("__debug__" : Str)) = false := by decide) : PE X (.Name x pos) (tC v) :=
 fun _ _ _ H _ I h => sM I hg hm hv ⟨v, H, I, r, h⟩ hn hd
variable {a b : Expr} {ta tb : TE} {pos : Pos}
def PC (X : Cx) (op : CmpOp) (a b : Expr) (t : TE) : Prop :=
 ∀ (pins : List (Addr × Obj)) (s : Shared) (σ : St) (H : Hp) (Q : VK), Inv X pins σ H s -> t σ H Q ->
  wpAny (model X.prog X.w) X.A (eval a X.env) (fun v s₁ => wpAny (model X.prog X.w) X.A (eval b X.env) (fun u s₂ => wpAny (model X.prog X.w) X.A (compareOp op v u) (EP X pins σ Q) X.xe s₂) X.xe s₁) X.xe s
theorem aDS (b : Expr) {op : CmpOp} (h : op ≠ .In) (h2 : op ≠ .NotIn) : behindInMarks op b = false := by
 have e1 : (op == CmpOp.In) = false := by cases op <;> first | rfl | exact absurd rfl h
 have e2 : (op == CmpOp.NotIn) = false := by cases op <;> first | rfl | exact absurd rfl h2
 cases b <;> simp [behindInMarks, e1, e2]
def tB (t : TE) : TT := fun σ H Q => t σ H fun x H1 => ∃ c, x = .bl c /\ Q c H1
theorem cT {op : CmpOp} {t : TE} (h : PC X op a b t) (h1 : behindInMarks op b = false := by first | exact aDS _ (by decide) (by decide) | rfl) : PT X (.Compare a [op] [b] pos) (tB t) := by
 intro pins s σ H Q I hw
 refine wpAny_isTrue_Compare1 (thn (h pins s σ H _ I hw) fun v s1 h1 => thn h1 fun u s2 h2 => thn h2 fun c s3 ⟨x, H1, I1, r1, q1⟩ => ?_) h1
 obtain ⟨d, rfl, q⟩ := q1
 cases r1
 exact wpAny_truthy_bool ⟨H1, I1, q⟩
theorem d3 {e : Expr} {t : TE} (h : PE X e t) (he : ∀ whole, isTrue e X.env whole = (do let v <- whole; standAt e.pos; holding [v] (truthy v)) := by intro _; rfl) : PT X e (tB t) := by
 intro pins s σ H Q I hw
 refine isTrue_plain (thn (h pins s σ H _ I hw) fun v s1 ⟨x, H1, I1, r1, q1⟩ => ?_) (he _)
 obtain ⟨d, rfl, q⟩ := q1
 cases r1
 exact wpAny_truthy_bool ⟨H1, I1, q⟩
variable {tA tB' : TT} {rest : List Expr}
def aIR (t u : TT) : TT := fun σ H Q => t σ H fun c H1 => if c = true then u σ H1 Q else Q false H1
def tOr (t u : TT) : TT := fun σ H Q => t σ H fun c H1 => if c = true then Q true H1 else u σ H1 Q
def aMY (t : TT) : TT := fun σ H Q => t σ H fun c H1 => Q (!c) H1
theorem jC (ha : PT X a tA) : PW X (.BoolOp .And [a] pos) tA := by
 intro wh pins s σ H Q I h
 refine isTrue_and (thn (ha pins s σ H Q I h) fun c s1 e => ?_)
 cases c with
 | true => exact isTrue_and_nil e
 | false => exact e
theorem oV (ha : PT X a tA) : PW X (.BoolOp .Or [a] pos) tA := by
 intro wh pins s σ H Q I h
 refine isTrue_or (thn (ha pins s σ H Q I h) fun c s1 e => ?_)
 cases c with
 | false => exact isTrue_or_nil e
 | true => exact e
theorem iT (ha : PT X a tA) (hb : PW X (.BoolOp .And (b :: rest) pos) tB') : PW X (.BoolOp .And (a :: b :: rest) pos) (aIR tA tB') := by
 intro wh pins s σ H Q I h
 refine isTrue_and (thn (ha pins s σ H _ I h) fun c s1 ⟨H1, I1, q1⟩ => ?_)
 cases c with
 | true => exact hb wh pins s1 σ H1 Q I1 q1
 | false => exact ⟨H1, I1, q1⟩
theorem p7 (ha : PT X a tA) (hb : PW X (.BoolOp .Or (b :: rest) pos) tB') : PW X (.BoolOp .Or (a :: b :: rest) pos) (tOr tA tB') := by
 intro wh pins s σ H Q I h
 refine isTrue_or (thn (ha pins s σ H _ I h) fun c s1 ⟨H1, I1, q1⟩ => ?_)
 cases c with
 | true => exact ⟨H1, I1, q1⟩
 | false => exact hb wh pins s1 σ H1 Q I1 q1
theorem iU (ha : PT X a tA) : PT X (.UnaryOp .Not a pos) (aMY tA) := by
 intro pins s σ H Q I h
 exact isTrue_not (ha pins s σ H (fun c H1 => Q (!c) H1) I h)
def aLT (ta tb : TE) : TE := fun σ H Q => ta σ H fun x H1 => ∃ c, x = .bl c /\ if c = true then tb σ H1 Q else Q (.bl false) H1
theorem aIS {op} {t : TE} (h : PE X a t) : PE X (.BoolOp op [a] pos) t := fun pins s σ H Q I hw => BoolOp_one (h pins s σ H Q I hw)
theorem aIT (ha : PE X a ta) (hb : PE X (.BoolOp .And (b :: rest) pos) tb) : PE X (.BoolOp .And (a :: b :: rest) pos) (aLT ta tb) := by
 intro pins s σ H Q I h
 refine BoolOp_and (thn (ha pins s σ H _ I h) fun v s1 ⟨x, H1, I1, r1, q1⟩ => ?_)
 obtain ⟨c, rfl, q1⟩ := q1
 cases r1
 refine wpAny_truthy_bool ?_
 cases c with
 | true => exact hb pins s1 σ H1 Q I1 q1
 | false => exact ⟨.bl false, H1, I1, rfl, q1⟩
def tIf (t : TT) (ta tb : TE) : TE := fun σ H Q => t σ H fun c H1 => if c = true then ta σ H1 Q else tb σ H1 Q
theorem aDT {c : Expr} (hc : PT X c tA) (ha : PE X a ta) (hb : PE X b tb) : PE X (.IfExp c a b pos) (tIf tA ta tb) := by
 intro pins s σ H Q I h
 refine wpAny_IfExp (thn (hc pins s σ H _ I h) fun d s1 ⟨H1, I1, q1⟩ => ?_)
 cases d with
 | true => exact ha pins s1 σ H1 Q I1 q1
 | false => exact hb pins s1 σ H1 Q I1 q1
end
end L2
namespace L2
open PySem PySem.Spec PyProof.Rows
def SqL (K : Frag) (H : Hp) (a : Addr) (xs : List V) : Prop :=
 Rd H a (.lst xs) \/
  ∃ (o : Obj) (its : Array Value) (n : Nat), K.lookup a = some o /\ o.cls = .type "list" /\ o.dict = none /\ o.data = .seq its n /\ its.size <= sizeLine /\ bH xs its.toList
def SqT (K : Frag) (H : Hp) (a : Addr) (xs : List V) : Prop :=
 Rd H a (.tup xs) \/
  ∃ (o : Obj) (its : Array Value) (n : Nat), K.lookup a = some o /\ o.cls = .type "tuple" /\ o.data = .seq its n /\ its.size <= sizeLine /\ bH xs its.toList
def aMZ : Value -> Option V
 | .none => some .non
 | .bool b => some (.bl b)
 | .int i _ => some (.int i)
 | .str x _ => some (.str x)
 | .bytes b _ => some (.byt b)
 | .float b _ => some (.flt b)
 | .ref a => some (.ref a)
 | .type n => some (.ty n)
 | _ => none
theorem a5.abs {x : V} {u : Value} (r : a5 x u) : aMZ u = some x := by
 cases x with
 | non => cases r; rfl
 | bl _ => cases r; rfl
 | int _ => obtain ⟨t, rfl⟩ := r; rfl
 | str _ => obtain ⟨t, rfl⟩ := r; rfl
 | byt _ => obtain ⟨t, rfl⟩ := r; rfl
 | flt _ => obtain ⟨t, rfl⟩ := r; rfl
 | ref _ => cases r; rfl
 | ty _ => cases r; rfl
theorem a5.inj {x y : V} {u : Value} (r : a5 x u) (q : a5 y u) : x = y := Option.some.inj (r.abs.symm.trans q.abs)
theorem bH.inj : ∀ {xs ys : List V} {us : List Value}, bH xs us -> bH ys us -> xs = ys
 | _, _, _, .nil, .nil => rfl
 | _, _, _, .cons r t, .cons r' t' => by rw [r.inj r', bH.inj t t']
section
variable {X : Cx} {pins : List (Addr × Obj)} {σ : St} {H : Hp} {s : Shared} {a : Addr} {xs ys : List V}
theorem SqL.of {K : Frag} (h : H a = some (.lst xs)) : SqL K H a xs := .inl (.inl h)
theorem SqT.of {K : Frag} (h : H a = some (.tup xs)) : SqT K H a xs := .inl (.inl h)
theorem Inv.list (I : Inv X pins σ H s) (h : SqL X.K H a xs) : ∃ its : List Value, bH xs its /\ PlainL s.heap a its.toArray /\ xs.length <= sizeLine := by
 rcases h with h | ⟨o, its, n, hk, hc, hd, hs, hz, r⟩
 ·obtain ⟨z, its, n, r, e⟩ := h.ok I.hok
  exact ⟨its, r, ⟨_, n, e, rfl, rfl, rfl⟩, z⟩
 ·refine ⟨its.toList, r, ⟨o, n, I.kIn a o hk, hc, hd, by simpa using hs⟩, ?_⟩
  have e := r.length
  simp only [Array.length_toList] at e
  omega
theorem Inv.tuple (I : Inv X pins σ H s) (h : SqT X.K H a xs) : ∃ its : List Value, bH xs its /\ IsTup s.heap a its.toArray /\ xs.length <= sizeLine := by
 rcases h with h | ⟨o, its, n, hk, hc, hs, hz, r⟩
 ·obtain ⟨z, its, r, p⟩ := h.ok I.hok
  exact ⟨its, r, p, z⟩
 ·refine ⟨its.toList, r, ⟨o, I.kIn a o hk, hc, n, by simpa using hs⟩, ?_⟩
  have e := r.length
  simp only [Array.length_toList] at e
  omega
theorem Inv.list_inj (I : Inv X pins σ H s) (h : SqL X.K H a xs) (h' : SqL X.K H a ys) : xs = ys := by
 obtain ⟨its, r, ⟨o, n, e, _, _, d⟩, _⟩ := I.list h
 obtain ⟨its', r', ⟨o', n', e', _, _, d'⟩, _⟩ := I.list h'
 rw [e] at e'; cases e'
 rw [d] at d'
 injection d' with d1 _
 have : its = its' := by simpa using congrArg Array.toList d1
 subst this
 exact r.inj r'
theorem Inv.tuple_inj (I : Inv X pins σ H s) (h : SqT X.K H a xs) (h' : SqT X.K H a ys) : xs = ys := by
 obtain ⟨its, r, ⟨o, e, _, n, d⟩, _⟩ := I.tuple h
 obtain ⟨its', r', ⟨o', e', _, n', d'⟩, _⟩ := I.tuple h'
 rw [e] at e'; cases e'
 rw [d] at d'
 injection d' with d1 _
 have : its = its' := by simpa using congrArg Array.toList d1
 subst this
 exact r.inj r'
end
abbrev Cx.wish (X : Cx) (E : Value -> Shared -> Prop) : Cx := { X with xe := E }
theorem Cx.Ok.wish {X : Cx} (ok : X.Ok) (E : Value -> Shared -> Prop) : (X.wish E).Ok :=
 ⟨ok.mod, ok.kind, ok.glob, ok.blt, ok.above, ok.inj, ok.has, ok.cab, ok.hd, ok.frames, ok.stk, ok.exf, ok.bs, ok.bsz, ok.noex, ok.exfs, ok.funs, ok.frf⟩
theorem Cx.Ok.unwish {X : Cx} {E : Value -> Shared -> Prop} (ok : (X.wish E).Ok) : X.Ok :=
 ⟨ok.mod, ok.kind, ok.glob, ok.blt, ok.above, ok.inj, ok.has, ok.cab, ok.hd, ok.frames, ok.stk, ok.exf, ok.bs, ok.bsz, ok.noex, ok.exfs, ok.funs, ok.frf⟩
section
variable {X : Cx} {pins : List (Addr × Obj)} {σ : St} {H : Hp} {s : Shared} {E : Value -> Shared -> Prop}
theorem Inv.wish (I : Inv X pins σ H s) (E : Value -> Shared -> Prop) : Inv (X.wish E) pins σ H s := ⟨I.ok.wish E, I.os, I.bare, I.base, I.loc, I.cell, I.free, I.freeC, I.pin, I.hok, I.len⟩
theorem Inv.unwish (I : Inv (X.wish E) pins σ H s) : Inv X pins σ H s := ⟨I.ok.unwish, I.os, I.bare, I.base, I.loc, I.cell, I.free, I.freeC, I.pin, I.hok, I.len⟩
theorem SP.unwish {D : iQ} {f : Flow} {s' : Shared} (h : SP (X.wish E) pins D f s') : SP X pins D f s' := by
 cases f with
 | next => obtain ⟨σ', H', I, q⟩ := h; exact ⟨σ', H', I.unwish, q⟩
 | brk => obtain ⟨σ', H', I, q⟩ := h; exact ⟨σ', H', I.unwish, q⟩
 | cont => obtain ⟨σ', H', I, q⟩ := h; exact ⟨σ', H', I.unwish, q⟩
 | ret u => obtain ⟨v, σ', H', I, r, q⟩ := h; exact ⟨v, σ', H', I.unwish, r, q⟩
end
section
variable {X : Cx} {st : Stmt} {rest : List Stmt} {t u : TS} {e : Expr} {te : TE} {pos : Pos}
def aLU : TS := fun D σ H => D.nx σ H
def aM0 (t u : TS) : TS := fun D σ H => t { D with nx := u D } σ H
theorem cD : PSs X [] aLU := fun _ _ σ H _ I h => wpAny_execs_nil ⟨σ, H, I, h⟩
theorem aE (h1 : PS X st t) (h2 : PSs X rest u) : PSs X (st :: rest) (aM0 t u) := by
 intro pins s σ H D I h
 refine wpAny_execs_cons (thn (h1 pins s σ H { D with nx := u D } I h) fun f s1 q => ?_)
 cases f with
 | next =>
  obtain ⟨σ', H', I', q⟩ := q
  exact h2 pins s1 σ' H' D I' q
 | ret v => exact q
 | brk => exact q
 | cont => exact q
theorem aN (h1 : PS X st t) : PSs X [st] t := by
 intro pins s σ H D I h
 refine wpAny_execs_cons (thn (h1 pins s σ H D I h) fun f s1 q => ?_)
 cases f with
 | next => exact wpAny_execs_nil q
 | ret v => exact q
 | brk => exact q
 | cont => exact q
theorem Inv.quiet {pins : List (Addr × Obj)} {σ : St} {H : Hp} {s : Shared} (I : Inv X pins σ H s) : interactive X.env = false := by simp [interactive, I.ok.kind]
def aAL (te : TE) : TS := fun D σ H => te σ H fun _ H1 => D.nx σ H1
theorem fD (he : PE X e te) (hs : swapsWith e none pos.line X.env = pure false := by rfl) : PS X (.Expr e pos) (aAL te) := by
 intro pins s σ H D I h
 exact wpAny_Expr_any (thn (he pins s σ H _ I h) fun v s1 ⟨x, H1, I1, r1, q1⟩ => ⟨σ, H1, I1, q1⟩) I.quiet hs
def aM1 (te : TE) : TS := fun D σ H => te σ H D.rt
theorem bJ (he : PE X e te) : PS X (.Return (some e) pos) (aM1 te) := by
 intro pins s σ H D I h
 exact wpAny_Return_some (thn (he pins s σ H _ I h) fun v s1 ⟨x, H1, I1, r1, q1⟩ => ⟨x, σ, H1, I1, r1, q1⟩)
def aM2 (c : TT) (t u : TS) : TS := fun D σ H => c σ H fun b H1 => if b = true then t D σ H1 else u D σ H1
theorem dA {c : Expr} {a b : List Stmt} {tc : TT} (hc : PT X c tc) (ha : PSs X a t) (hb : PSs X b u) : PS X (.If c a b pos) (aM2 tc t u) := by
 intro pins s σ H D I h
 refine wpAny_If (thn (hc pins s σ H _ I h) fun d s1 ⟨H1, I1, q1⟩ => ?_)
 cases d with
 | true => exact ha pins s1 σ H1 D I1 q1
 | false => exact hb pins s1 σ H1 D I1 q1
end
abbrev TG := V -> St -> Hp -> (St -> Hp -> Prop) -> Prop
abbrev TGs := List V -> St -> Hp -> (St -> Hp -> Prop) -> Prop
def PG (X : Cx) (target : Expr) (t : TG) : Prop :=
 ∀ (pins : List (Addr × Obj)) (s : Shared) (σ : St) (H : Hp) (v : V) (u : Value) (Q : St -> Hp -> Prop), Inv X pins σ H s -> a5 v u -> t v σ H Q ->
  wpAny (model X.prog X.w) X.A (assign target X.env u) (fun _ s' => ∃ σ' H', Inv X pins σ' H' s' /\ Q σ' H') X.xe s
def PGs (X : Cx) (ts : List Expr) (t : TGs) : Prop :=
 ∀ (pins : List (Addr × Obj)) (s : Shared) (σ : St) (H : Hp) (vs : List V) (us : List Value) (Q : St -> Hp -> Prop), Inv X pins σ H s -> bH vs us -> t vs σ H Q ->
  wpAny (model X.prog X.w) X.A (assignInOrder ((assignEach ts X.env).map (·.2)) us) (fun _ s' => ∃ σ' H', Inv X pins σ' H' s' /\ Q σ' H') X.xe s
abbrev aAM := V -> V -> V -> Hp -> (Hp -> Prop) -> Prop
def aIU (X : Cx) (t : aAM) : Prop :=
 ∀ (pins : List (Addr × Obj)) (s : Shared) (σ : St) (H : Hp) (o i v : V) (ov iv u : Value) (Q : Hp -> Prop), Inv X pins σ H s -> a5 o ov -> a5 i iv -> a5 v u -> t o i v H Q ->
  wpAny (model X.prog X.w) X.A (setItem ov iv u) (fun _ s' => ∃ H', Inv X pins σ H' s' /\ Q H') X.xe s
section
variable {X : Cx} {pos : Pos}
def jO (i : Nat) : TG := fun v σ H Q => Q (σ.set i (some v)) H
theorem bQ {i : Nat} {x : Str} (hN : X.N.Nodup) (hi : X.N[i]? = some x) (hx : Loc X.env.scope x) (hf : X.fn x = true \/ X.env.scope.names.lookup x = some .local := by first | exact .inl rfl | exact .inr rfl | assumption) : PG X (.Name x pos) (jO i) := by
 intro pins s σ H v u Q I r h
 exact wpAny_assign_Name (lQ I hN hi hx r (fun s' I' => ⟨_, H, I', h⟩) hf)
def aIV : TGs := fun vs σ H Q => vs = [] /\ Q σ H
def aFM (t : TG) (u : TGs) : TGs := fun vs σ H Q => ∃ v r, vs = v :: r /\ t v σ H fun σ' H' => u r σ' H' Q
theorem m3 : PGs X [] aIV := by
 intro pins s σ H vs us Q I r h
 obtain ⟨e, h⟩ := h
 subst e
 cases r
 exact assignInOrder_nil ⟨σ, H, I, h⟩
theorem eU {e : Expr} {es : List Expr} {t : TG} {u : TGs} (h1 : PG X e t) (h2 : PGs X es u)
  (hs : (assignEach (e :: es) X.env).map (·.2) = assign e X.env :: (assignEach es X.env).map (·.2) := by rfl) : PGs X (e :: es) (aFM t u) := by
 intro pins s σ H vs us Q I r h
 obtain ⟨v, vr, e1, h⟩ := h
 subst e1
 cases r with
 | cons r rr =>
  rw [hs]
  refine assignInOrder_cons (thn (h1 pins s σ H _ _ _ I r h) fun _ s1 ⟨σ1, H1, I1, q1⟩ => ?_)
  exact h2 pins s1 σ1 H1 _ _ Q I1 rr q1
def aIW (K : Frag) (n : Nat) (t : TGs) : TG := fun v σ H Q => ∃ a xs, v = .ref a /\ SqT K H a xs /\ xs.length = n /\ t xs σ H Q
theorem oW {es : List Expr} {k : Nat} {t : TGs} {n : Nat} (hc : X.calm = true) (h : PGs X es t)
  (hn : (assignEach es X.env).length = n := by rfl) (hst : (assignEach es X.env).findIdx? (·.1) = none := by rfl) : PG X (.Tuple es k pos) (aIW X.K n t) := by
 intro pins s σ H v u Q I r hw
 obtain ⟨a, xs, e1, hq, hl, hw⟩ := hw
 subst e1
 cases r
 obtain ⟨its, rv, ht, hz⟩ := I.tuple hq
 refine assign_Tuple_tuple (I.ok.hd hc) ht (by simp [hn, <- hl, rv.length]) hst fun h' hx => ?_
 have I1 : Inv X pins σ H { s with heap := h' } := I.kept (t' := s.toks) fun b o e => hx b o (Nat.ne_of_lt (Heap.lt_size e)) e
 exact h pins _ σ H xs _ Q I1 (by simpa using rv) hw
def aIX (to ti : TE) (t : aAM) : TG := fun v σ H Q => to σ H fun o H1 => ti σ H1 fun i H2 => t o i v H2 fun H3 => Q σ H3
theorem m4 {o i : Expr} {to ti : TE} {t : aAM} (ho : PE X o to) (hi : PE X i ti) (hs : aIU X t)
  (ha : ∀ v, assign (.Subscript o i pos) X.env v = (do
   let ov <- holding [v] (eval o X.env)
   let iv <- holding [v, ov] (eval i X.env)
   standAt pos
   holding [v, ov, iv] (setItem ov iv v)
   release [v, ov, iv] []) := by intro _; rfl) : PG X (.Subscript o i pos) (aIX to ti t) := by
 intro pins s σ H v u Q I r h
 rw [ha]
 refine wpAny_bind (wpAny_holding (thn (ho pins s σ H _ I h) fun ov s1 ⟨x, H1, I1, r1, q1⟩ => ?_))
 refine wpAny_bind (wpAny_holding (thn (hi pins s1 σ H1 _ I1 q1) fun iv s2 ⟨y, H2, I2, r2, q2⟩ => ?_))
 refine wpAny_bind (wpAny_standAt (wpAny_bind (wpAny_holding (thn (hs pins s2 σ H2 x y v ov iv u _ I2 r1 r2 r q2) fun _ s3 ⟨H3, I3, q3⟩ => ?_))))
 exact wpAny_release ⟨σ, H3, I3, q3⟩
def kU (te : TE) (g : TG) : TS := fun D σ H => te σ H fun x H1 => g x σ H1 D.nx
theorem g6 {tg e : Expr} {te : TE} {g : TG} (he : PE X e te) (hg : PG X tg g) (hs : swapsWithSole [tg] e pos.line X.env = pure false := by rfl) (hw : swappedStores [tg] e X.env = pure none := by rfl)
  (h1 : (assignEach [tg] X.env).map (·.2) = [assign tg X.env] := by rfl) : PS X (.Assign [tg] e pos) (kU te g) := by
 intro pins s σ H D I h
 refine wpAny_Assign_stores (thn (he pins s σ H _ I h) fun v s1 ⟨x, H1, I1, r1, q1⟩ => ?_) hs hw
 rw [h1]
 exact thn (hg pins s1 σ H1 x v _ I1 r1 q1) fun _ s2 q => q
theorem aJ {i : Nat} {x : Str} {e : Expr} {te : TE} {pos' : Pos} (hN : X.N.Nodup) (hi : X.N[i]? = some x) (hx : Loc X.env.scope x) (he : PE X e te) (hs : swapsWith e (some (.Name x pos')) pos.line X.env = pure false := by rfl) (hf : X.fn x = true \/ X.env.scope.names.lookup x = some .local := by first | exact .inl rfl | exact .inr rfl | assumption) :
  PS X (.Assign [.Name x pos'] e pos) (kU te (jO i)) := by
 intro pins s σ H D I h
 refine wpAny_Assign_Name (thn (he pins s σ H _ I h) fun v s1 ⟨y, H1, I1, r1, q1⟩ => ?_) hs
 exact lQ I1 hN hi hx r1 (fun s2 I2 => ⟨_, H1, I2, q1⟩) hf
end
section
variable {X : Cx} {pos : Pos}
def aBY (c : TT) (tb : TS) : TS := fun D σ H => ∃ W : Nat -> St -> Hp -> Prop, (∃ m, W m σ H) /\ ∀ m σ H, W m σ H ->
 c σ H fun b H1 => if b = true then ∃ N : St -> Hp -> Prop, (∀ σ' H', N σ' H' -> ∃ m', m' < m /\ W m' σ' H') /\ tb { D with nx := N, ct := N, bk := D.nx } σ H1 else D.nx σ H1
theorem dW {c : Expr} {body : List Stmt} {tc : TT} {tb : TS} (hp : PassesOwn (model X.prog X.w) X.A X.env X.xe) (hc : PT X c tc) (hb : PSs X body tb) : PS X (.While c body [] pos) (aBY tc tb) := by
 intro pins s σ H D I h
 obtain ⟨W, ⟨m0, w0⟩, turn⟩ := h
 refine wpAny_While (codeAny_whileLoop (fun n s' => ∃ σ' H', Inv X pins σ' H' s' /\ W n σ' H') ?_ m0 ⟨σ, H, I, w0⟩)
 rintro n s1 ⟨σ1, H1, I1, w1⟩
 refine wpAny_passesOwn hp (thn (hc pins s1 σ1 H1 _ I1 (turn n σ1 H1 w1)) fun b s2 ⟨H2, I2, q2⟩ => ?_)
 cases b with
 | true =>
  obtain ⟨N, hN, q2⟩ := q2
  rw [if_pos rfl]
  refine wpAny_passesOwn hp (thn (hb pins s2 σ1 H2 _ I2 q2) fun f s3 q3 => ?_)
  cases f with
  | next =>
   obtain ⟨σ3, H3, I3, n3⟩ := q3
   obtain ⟨m', hm, w3⟩ := hN σ3 H3 n3
   exact ⟨m', hm, σ3, H3, I3, w3⟩
  | cont =>
   obtain ⟨σ3, H3, I3, n3⟩ := q3
   obtain ⟨m', hm, w3⟩ := hN σ3 H3 n3
   exact ⟨m', hm, σ3, H3, I3, w3⟩
  | brk => exact q3
  | ret v => exact q3
 | false =>
  rw [if_neg Bool.false_ne_true]
  exact wpAny_execs_nil ⟨σ1, H2, I2, q2⟩
end
structure It where
 go : Nat -> Hp -> Prop
 yld : Nat -> Hp -> V -> Hp -> Prop
 stop : Nat -> Hp -> Prop
def j0 (X : Cx) (pins : List (Addr × Obj)) (H : Hp) (b : Addr) : Prop :=
 H b = none /\ b ≠ X.env.locals /\ b ∉ X.fs /\ (b ∈ X.ex \/ X.s₀.heap.objs.size <= b) /\ (∀ x c, X.env.cells.lookup x = some c -> c ≠ b) /\ ∀ p ∈ X.pn ++ pins, p.1 ≠ b
theorem Inv.fpOk {X : Cx} {pins : List (Addr × Obj)} {σ : St} {H H' : Hp} {s : Shared} {b : Addr} (I : Inv X pins σ H s) (hb : s.heap.objs.size <= b) (hn : H' b = none) : j0 X pins H' b := by
 refine ⟨hn, Nat.ne_of_gt (Nat.lt_of_lt_of_le I.lt hb), I.nofs hb, .inr (Nat.le_trans I.sz hb), fun x c e z => ?_, fun p hp z => ?_⟩
 ·obtain ⟨v, q⟩ := I.cell x c e
  exact absurd (Nat.lt_of_lt_of_le q.lt (by rw [z]; exact hb)) (Nat.lt_irrefl _)
 ·exact absurd (Nat.lt_of_lt_of_le (Heap.lt_size (I.pin p hp).1) (by rw [z]; exact hb)) (Nat.lt_irrefl _)
structure Turn (P : Program) (w : World) (K : Frag) (tg : Expr) (J : It) (fp : List Addr) (it : Addr) (tn : Nat -> Heap -> Prop) : Prop where
 mem : it ∈ fp
 obj : ∀ i h, tn i h -> ∀ b ∈ fp, ∃ o, h.get? b = some o /\ ∀ v, o.data ≠ .cell v
 keep : ∀ i h h', tn i h -> (∀ b ∈ fp, ∀ o, h.get? b = some o -> h'.get? b = some o) -> tn i h'
 item : ∀ (X : Cx), X.prog = P -> X.w = w -> X.K = K -> X.calm = true -> ∀ (i : Nat) (pins : List (Addr × Obj)) (s : Shared) (σ : St) (H : Hp) (E : Value -> Shared -> Prop), Inv X pins σ H s -> (∀ b ∈ fp, j0 X pins H b) -> tn i s.heap -> J.go i H ->
  wpAny (model P w) X.A (pyNext (.ref it)) (fun r s1 => ∃ u, r = some u /\
   wpAny (model P w) X.A (letOwnedTupleGo tg (.ref it) u) (fun _ s2 => ∃ x H', Inv X pins σ H' s2 /\ a5 x u /\ J.yld i H x H' /\ tn (i + 1) s2.heap /\ ∀ b ∈ fp, H' b = none) E s1) E s
 done : ∀ (X : Cx), X.prog = P -> X.w = w -> X.K = K -> X.calm = true -> ∀ (i : Nat) (pins : List (Addr × Obj)) (s : Shared) (σ : St) (H : Hp) (E : Value -> Shared -> Prop), Inv X pins σ H s -> (∀ b ∈ fp, j0 X pins H b) -> tn i s.heap -> J.stop i H ->
  wpAny (model P w) X.A (pyNext (.ref it)) (fun r s1 => r = none /\ Inv X pins σ H s1) E s
 self : ∀ (A : Around) (i : Nat) (s : Shared) (Q : Value -> Shared -> Prop) (E : Value -> Shared -> Prop), tn i s.heap -> Q (.ref it) s -> wpAny (model P w) A (pyIter (.ref it)) Q E s
abbrev TI := St -> Hp -> (It -> Hp -> Prop) -> Prop
def PIE (X : Cx) (pins : List (Addr × Obj)) (σ : St) (tg : Expr) (R : It -> Hp -> Prop) (itv : Value) (s2 : Shared) : Prop :=
 ∃ (it : Addr) (fp : List Addr) (tn : Nat -> Heap -> Prop) (J : It) (H' : Hp), itv = .ref it /\ Inv X pins σ H' s2 /\ Turn X.prog X.w X.K tg J fp it tn /\ tn 0 s2.heap /\ (∀ b ∈ fp, j0 X pins H' b) /\ R J H'
def PI (X : Cx) (tg iter : Expr) (wi : TI) : Prop :=
 ∀ (pins : List (Addr × Obj)) (s : Shared) (σ : St) (H : Hp) (R : It -> Hp -> Prop), Inv X pins σ H s -> wi σ H R ->
  wpAny (model X.prog X.w) X.A (eval iter X.env) (fun v s1 => wpAny (model X.prog X.w) X.A (pyIter v) (PIE X pins σ tg R) X.xe s1) X.xe s
theorem v6 {M : Model} {A : Around} {E : Value -> Shared -> Prop} {s : Shared} {tg : Expr} {it : Addr} {u : Value} {o : Obj} {n : String} {vs : Array Value} {Q : Unit -> Shared -> Prop} (ho : s.heap.get? it = some o) (hc : o.cls = .type n) (hd : o.data = .fields vs)
    (hn : ["enumerate", "zip", "dict_itemiterator", "dict_reverseitemiterator", "odict_iterator", "itertools.zip_longest", "itertools.pairwise"].contains n = false) (hQ : Q () s) : wpAny M A (letOwnedTupleGo tg (.ref it) u) Q E s := by
  unfold letOwnedTupleGo
  cases tg <;> first
    | exact wpAny_pure hQ
    | (cases u <;> first
        | exact wpAny_pure hQ
        | (refine wpAny_bind (wpAny_load ho ?_)
           rw [hc, hd]
           show wpAny M A (if (["enumerate", "zip", "dict_itemiterator", "dict_reverseitemiterator", "odict_iterator", "itertools.zip_longest", "itertools.pairwise"].contains n && vs[0]? == some (rawInt _)) = true then _ else _) Q E s
           rw [if_neg (by intro h; rw [hn, Bool.false_and] at h; cases h)]
           exact wpAny_pure hQ))
def Itl (K : Frag) (a : Addr) : It :=
 ⟨fun i H => ∃ xs x, SqL K H a xs /\ xs[i]? = some x, fun i H x H' => H' = H /\ ∀ xs, SqL K H a xs -> xs[i]? = some x, fun i H => ∃ xs, SqL K H a xs /\ xs.length <= i⟩
def Itt (K : Frag) (a : Addr) : It :=
 ⟨fun i H => ∃ xs x, SqT K H a xs /\ xs[i]? = some x, fun i H x H' => H' = H /\ ∀ xs, SqT K H a xs -> xs[i]? = some x, fun i H => ∃ xs, SqT K H a xs /\ xs.length <= i⟩
def Itr (lo : Int) (n : Nat) : It := ⟨fun i _ => i < n, fun i H x H' => H' = H /\ x = .int (lo + i), fun i _ => n <= i⟩
theorem aBZ {P : Program} {w : World} {K : Frag} {tg : Expr} (a it : Addr) : Turn P w K tg (Itl K a) [it] it (fun i h => h.IsListIter it a i) where
 mem := by simp
 obj := fun i h st b hb => by
  have e : b = it := by simpa using hb
  subst e
  obtain ⟨o, e, c, d⟩ := st
  exact ⟨o, e, fun v z => by rw [d] at z; cases z⟩
 keep := fun i h h' st k => st.at fun o e => k it (by simp) o e
 item := by
  intro X hP hw hK hc i pins s σ H E I hf st hg
  subst hP hw hK
  obtain ⟨xs, x, hq, hx⟩ := hg
  obtain ⟨its, rv, p, hz⟩ := I.list hq
  obtain ⟨u, hu, ru⟩ := rv.get hx
  obtain ⟨f0, f1, f2, f3, f4, f5⟩ := hf it (by simp)
  refine wpAny_pyNext_list_item st p.isList (x := u) (by simpa using hu) fun h' st' sb => ?_
  have I1 : Inv X pins σ H { s with heap := h' } := I.turned (t' := s.toks) (fun b o hb e => (sb.2 b hb).trans e) f0 f1 f3 f4 f5
  obtain ⟨o, e, c, d⟩ := id st'
  exact ⟨u, rfl, v6 (s := { s with heap := h' }) e c d (by decide) ⟨x, H, I1, ru, ⟨rfl, fun ys hy => by rw [I.list_inj hy hq]; exact hx⟩, st', fun b hb => (hf b hb).1⟩⟩
 done := by
  intro X hP hw hK hc i pins s σ H E I hf st hg
  subst hP hw hK
  obtain ⟨xs, hq, hx⟩ := hg
  obtain ⟨its, rv, p, hz⟩ := I.list hq
  obtain ⟨f0, f1, f2, f3, f4, f5⟩ := hf it (by simp)
  have hl := rv.length
  exact wpAny_pyNext_list_end (I.ok.hd hc) st p.isList (by simp; omega) fun h' eb => ⟨rfl, I.turned (t' := s.toks) (fun b o hb e => eb b o hb e) f0 f1 f3 f4 f5⟩
 self := fun _ _ _ _ _ st h => wpAny_pyIter_listiter st h
theorem aAN {P : Program} {w : World} {K : Frag} {tg : Expr} (a it : Addr) : Turn P w K tg (Itt K a) [it] it (fun i h => h.IsTupleIter it a i) where
 mem := by simp
 obj := fun i h st b hb => by
  have e : b = it := by simpa using hb
  subst e
  obtain ⟨o, e, c, d⟩ := st
  exact ⟨o, e, fun v z => by rw [d] at z; cases z⟩
 keep := fun i h h' st k => st.at fun o e => k it (by simp) o e
 item := by
  intro X hP hw hK hc i pins s σ H E I hf st hg
  subst hP hw hK
  obtain ⟨xs, x, hq, hx⟩ := hg
  obtain ⟨its, rv, p, hz⟩ := I.tuple hq
  obtain ⟨u, hu, ru⟩ := rv.get hx
  obtain ⟨f0, f1, f2, f3, f4, f5⟩ := hf it (by simp)
  refine wpAny_pyNext_tuple_item st (show s.heap.IsTuple a its.toArray from p) (x := u) (by simpa using hu) fun h' st' sb => ?_
  have I1 : Inv X pins σ H { s with heap := h' } := I.turned (t' := s.toks) (fun b o hb e => (sb.2 b hb).trans e) f0 f1 f3 f4 f5
  obtain ⟨o, e, c, d⟩ := id st'
  exact ⟨u, rfl, v6 (s := { s with heap := h' }) e c d (by decide) ⟨x, H, I1, ru, ⟨rfl, fun ys hy => by rw [I.tuple_inj hy hq]; exact hx⟩, st', fun b hb => (hf b hb).1⟩⟩
 done := by
  intro X hP hw hK hc i pins s σ H E I hf st hg
  subst hP hw hK
  obtain ⟨xs, hq, hx⟩ := hg
  obtain ⟨its, rv, p, hz⟩ := I.tuple hq
  obtain ⟨f0, f1, f2, f3, f4, f5⟩ := hf it (by simp)
  have hl := rv.length
  exact wpAny_pyNext_tuple_end (I.ok.hd hc) st (show s.heap.IsTuple a its.toArray from p) (by simp; omega) fun h' eb => ⟨rfl, I.turned (t' := s.toks) (fun b o hb e => eb b o hb e) f0 f1 f3 f4 f5⟩
 self := fun _ _ _ _ _ st h => wpAny_pyIter_tupleiter st h
theorem aAO {P : Program} {w : World} {K : Frag} {tg : Expr} (it : Addr) (lo : Int) (n : Nat) : Turn P w K tg (Itr lo n) [it] it (fun i h => IsRangeIter h it (lo + (i : Nat) * 1) ((n : Int) - (i : Nat)) 1) where
 mem := by simp
 obj := fun i h st b hb => by
  have e : b = it := by simpa using hb
  subst e
  exact ⟨_, st, fun v z => by
   have z' : Data.fields _ = Data.cell v := z
   cases z'⟩
 keep := fun i h h' st k => k it (by simp) _ st
 item := by
  intro X hP hw hK hc i pins s σ H E I hf st hg
  subst hP hw hK
  obtain ⟨f0, f1, f2, f3, f4, f5⟩ := hf it (by simp)
  have W := Walks.range (prog := X.prog) (w := X.w) (I.ok.hd hc) it lo 1 n
  refine W.item i s _ _ hg st fun v h' tk hv st' kk => ?_
  obtain ⟨t, rfl⟩ := hv
  have I1 : Inv X pins σ H { s with heap := h', toks := tk } := I.turned (fun b o hb e => kk b o (by simpa using hb) e) f0 f1 f3 f4 f5
  refine ⟨_, rfl, v6 (s := { s with heap := h', toks := tk }) (n := "range_iterator") st' rfl rfl (by decide) ⟨.int (lo + i), H, I1, ⟨t, ?_⟩, ⟨rfl, rfl⟩, st', fun b hb => (hf b hb).1⟩⟩
  rw [Int.mul_one]
 done := by
  intro X hP hw hK hc i pins s σ H E I hf st hg
  subst hP hw hK
  obtain ⟨f0, f1, f2, f3, f4, f5⟩ := hf it (by simp)
  exact wpAny_pyNext_range_end (I.ok.hd hc) st (by have : n <= i := hg; omega) fun h' eb => ⟨rfl, I.turned (t' := s.toks) (fun b o hb e => eb b o hb e) f0 f1 f3 f4 f5⟩
 self := fun _ _ _ _ _ st h => wpAny_pyIter_rangeiter st h
end L2
namespace L2
open PySem PySem.Spec PyProof.Rows
section
variable {X : Cx} {tg : Expr}
theorem aDU {pins : List (Addr × Obj)} {σ : St} {H : Hp} {s : Shared} {R : It -> Hp -> Prop} {E : Value -> Shared -> Prop} {lo hi : Int} {t u v : Tok} {tk : Nat} (I : Inv X pins σ H s) (h1 : -(2 ^ 62) <= lo) (h2 : lo < 2 ^ 62) (h3 : -(2 ^ 62) <= hi) (h4 : hi < 2 ^ 62)
  (q : R (Itr lo (hi - lo).toNat) H) : wpAny (model X.prog X.w) X.A (pyIter (.ref s.heap.objs.size)) (PIE X pins σ tg R) E { s with heap := s.heap.push { cls := .type "range", data := .fields #[.int lo t, .int hi u, .int 1 v] }, toks := tk } := by
 refine wpAny_pyIter_range (IsRange.new ..) (small_one h1 h2 h3 h4) ?_
 have I1 : Inv X pins σ H { s with heap := s.heap.push { cls := .type "range", data := .fields #[.int lo t, .int hi u, .int 1 v] }, toks := tk } := I.kept fun b o e => Heap.get?_push_of_some _ e
 refine ⟨(s.heap.push { cls := .type "range", data := .fields #[.int lo t, .int hi u, .int 1 v] }).objs.size, [(s.heap.push { cls := .type "range", data := .fields #[.int lo t, .int hi u, .int 1 v] }).objs.size], _, _, H, rfl,
  I1.kept (t' := tk) fun b o e => Heap.get?_push_of_some _ e, aAO _ lo (hi - lo).toNat, ?_, fun b hb => ?_, q⟩
 ·have e1 : lo + ((0 : Nat) : Int) * 1 = lo := by simp
  have e2 : (((hi - lo).toNat : Nat) : Int) - ((0 : Nat) : Int) = Builtin.Range.rangeSize lo hi 1 := by rw [rangeSize_one]; split <;> omega
  show IsRangeIter _ _ (lo + ((0 : Nat) : Int) * 1) ((((hi - lo).toNat : Nat) : Int) - ((0 : Nat) : Int)) 1
  rw [e1, e2]
  exact Heap.get?_push_size _ rfl
 ·have e : b = (s.heap.push { cls := .type "range", data := .fields #[.int lo t, .int hi u, .int 1 v] }).objs.size := by simpa using hb
  subst e
  exact I1.fpOk (Nat.le_refl _) (I1.hok.fresh (Nat.le_refl _))
def aFN (ta : TA) : TI := fun σ H R => ta σ H fun vs H1 => ∃ j : Int, vs = [.int j] /\ -(2 ^ 62) <= j /\ j < 2 ^ 62 /\ R (Itr 0 j.toNat) H1
theorem jD {a : Expr} {ta : TA} {p pos : Pos} (hg : Gl X "range") (hm : X.mg "range" = none) (ha : PA X [a] ta) (hs : starEach [a] X.env = [(false, eval a X.env)] := by rfl) : PI X tg (.Call (.Name "range" p) [a] [] pos) (aFN ta) := by
 intro pins s σ H R I h
 refine Call_ (sM I hg hm boot_range (PyProof.Rows.callWith_type1 (thn (ha pos pins s σ H _ I h) fun us s1 ⟨vs, H1, I1, r1, q1⟩ => ?_) hs rfl))
 obtain ⟨j, e, q1, q2, q⟩ := q1
 subst e
 cases r1 with
 | cons r rr =>
  cases rr
  obtain ⟨t, rfl⟩ := r
  exact call_range_1 (aDU I1 (by omega) (by omega) q1 q2 (by simpa using q))
def aIY (wi : TI) (g : TG) (tb : TS) : TS := fun D σ H => wi σ H fun J H1 => ∃ W : Nat -> Nat -> St -> Hp -> Prop, (∃ m, W 0 m σ H1) /\ ∀ i m σ H, W i m σ H ->
 (J.stop i H /\ D.nx σ H) \/ (J.go i H /\ ∃ N : St -> Hp -> Prop, (∀ σ' H', N σ' H' -> ∃ m', m' < m /\ W (i + 1) m' σ' H') /\ ∀ x H', J.yld i H x H' -> g x σ H' fun σ2 H2 => tb { D with nx := N, ct := N, bk := D.nx } σ2 H2)
def oX (fp : List Addr) (h : Heap) : List (Addr × Obj) := fp.filterMap fun b => (h.get? b).map fun o => (b, o)
theorem lB {fp : List Addr} {h : Heap} {b : Addr} {o : Obj} (hb : b ∈ fp) (e : h.get? b = some o) : (b, o) ∈ oX fp h := List.mem_filterMap.mpr ⟨b, hb, by rw [e]; rfl⟩
theorem aB0 {fp : List Addr} {h : Heap} {p : Addr × Obj} (hp : p ∈ oX fp h) : p.1 ∈ fp /\ h.get? p.1 = some p.2 := by
 obtain ⟨b, hb, e⟩ := List.mem_filterMap.mp hp
 cases q : h.get? b with
 | none => rw [q] at e; cases e
 | some o =>
  rw [q] at e
  have e' : (b, o) = p := Option.some.inj e
  subst e'
  exact ⟨hb, q⟩
theorem Inv.pinned {pins : List (Addr × Obj)} {σ : St} {H : Hp} {s : Shared} {fp : List Addr} (I : Inv X pins σ H s) (hf : ∀ b ∈ fp, j0 X pins H b) (ho : ∀ b ∈ fp, ∃ o, s.heap.get? b = some o /\ ∀ v, o.data ≠ .cell v) : Inv X (pins ++ oX fp s.heap) σ H s :=
 I.pins_of fun p hp => (List.mem_append.mp hp).elim (fun z => I.pin p (List.mem_append_right _ z)) fun z => by
  obtain ⟨hb, e⟩ := aB0 z
  obtain ⟨f0, f1, f2, _⟩ := hf p.1 hb
  obtain ⟨o, e', d⟩ := ho p.1 hb
  rw [e] at e'; cases e'
  exact ⟨e, f0, f1, f2, d⟩
theorem Inv.unpinned {pins pl : List (Addr × Obj)} {σ : St} {H : Hp} {s : Shared} (I : Inv X (pins ++ pl) σ H s) : Inv X pins σ H s := I.pins_of fun p hp => I.pin p (List.mem_append_right _ (List.mem_append_left _ hp))
theorem eW {iter : Expr} {body : List Stmt} {wi : TI} {g : TG} {tb : TS} {pos : Pos} (hp : PassesOwn (model X.prog X.w) X.A X.env X.xe) (hc : X.calm = true) (hi : PI X tg iter wi) (hg : PG X tg g) (hb : PSs X body tb)
  (hs : ∀ x, foldedSetIterable iter X.env x = pure x := by intro _; rfl) : PS X (.For tg iter body [] pos) (aIY wi g tb) := by
 intro pins s σ H D I h
 refine wpAny_For (thn (hi pins s σ H _ I h) fun v s1 h1 => thn h1 fun itv s2 h2 => ?_) hs
 obtain ⟨it, fp, tn, J, H2, e, I2, T, st2, f2, W, ⟨m0, w0⟩, turn⟩ := h2
 subst e
 have stat : ∀ {H' : Hp}, (∀ b ∈ fp, H' b = none) -> ∀ b ∈ fp, j0 X pins H' b := fun hn b hb => ⟨hn b hb, (f2 b hb).2⟩
 refine codeAny_forLoop_any (fun n s' => ∃ i σ' H', Inv X pins σ' H' s' /\ tn i s'.heap /\ (∀ b ∈ fp, H' b = none) /\ W i n σ' H') ?_ m0 ⟨0, σ, H2, I2, st2, fun b hb => (f2 b hb).1, w0⟩
 rintro n s3 ⟨i, σ3, H3, I3, st3, fr3, w3⟩
 rcases turn i n σ3 H3 w3 with ⟨stop, qn⟩ | ⟨go, N, hN, step⟩
 ·refine wpAny_passesOwn hp (thn (T.done X rfl rfl rfl hc i pins s3 σ3 H3 X.xe I3 (stat fr3) st3 stop) fun r s4 ⟨hr, I4⟩ => ?_)
  subst hr
  exact wpAny_execs_nil ⟨σ3, H3, I4, qn⟩
 ·refine wpAny_passesOwn hp (thn (T.item X rfl rfl rfl hc i pins s3 σ3 H3 X.xe I3 (stat fr3) st3 go) fun r s4 ⟨u, hr, h4⟩ => ?_)
  subst hr
  refine wpAny_passesOwn hp (thn h4 fun _ s5 ⟨x, H5, I5, r5, y5, st5, fr5⟩ => ?_)
  have I5' := I5.pinned (stat fr5) (T.obj _ _ st5)
  refine wpAny_passesOwn hp (thn (hg _ s5 σ3 H5 x u _ I5' r5 (step x H5 y5)) fun _ s6 ⟨σ6, H6, I6, q6⟩ => ?_)
  refine wpAny_passesOwn hp (thn (hb _ s6 σ6 H6 _ I6 q6) fun f s7 q7 => ?_)
  have again : ∀ {σ7 : St} {H7 : Hp}, Inv X (pins ++ oX fp s5.heap) σ7 H7 s7 -> N σ7 H7 -> ∃ m, m < n /\ ∃ i σ' H', Inv X pins σ' H' s7 /\ tn i s7.heap /\ (∀ b ∈ fp, H' b = none) /\ W i m σ' H' := fun {σ7 H7} I7 n7 => by
   obtain ⟨m', hm, w7⟩ := hN σ7 H7 n7
   refine ⟨m', hm, i + 1, σ7, H7, I7.unpinned, T.keep _ _ _ st5 fun b hb o e => (I7.pin (b, o) (List.mem_append_right _ (List.mem_append_right _ (lB hb e)))).1, fun b hb => ?_, w7⟩
   obtain ⟨o, e, d⟩ := T.obj _ _ st5 b hb
   exact (I7.pin (b, o) (List.mem_append_right _ (List.mem_append_right _ (lB hb e)))).2.1
  cases f with
  | next => obtain ⟨σ7, H7, I7, n7⟩ := q7; exact again I7 n7
  | cont => obtain ⟨σ7, H7, I7, n7⟩ := q7; exact again I7 n7
  | brk => obtain ⟨σ7, H7, I7, q7⟩ := q7; exact ⟨σ7, H7, I7.unpinned, q7⟩
  | ret v => obtain ⟨x7, σ7, H7, I7, r7, q7⟩ := q7; exact ⟨x7, σ7, H7, I7.unpinned, r7, q7⟩
end
end L2
namespace L2
open PySem PySem.Spec PyProof.Rows
abbrev R2 := V -> V -> Hp -> VK -> Prop
def OpR (X : Cx) (f : Value -> Value -> Sem Value) (r : R2) : Prop :=
 ∀ (pins : List (Addr × Obj)) (s : Shared) (σ : St) (H : Hp) (x y : V) (v u : Value) (Q : VK), Inv X pins σ H s -> a5 x v -> a5 y u -> r x y H Q ->
  wpAny (model X.prog X.w) X.A (f v u) (EP X pins σ Q) X.xe s
def UnR (X : Cx) (f : Value -> Sem Value) (r : V -> Hp -> VK -> Prop) : Prop :=
 ∀ (pins : List (Addr × Obj)) (s : Shared) (σ : St) (H : Hp) (x : V) (v : Value) (Q : VK), Inv X pins σ H s -> a5 x v -> r x H Q ->
  wpAny (model X.prog X.w) X.A (f v) (EP X pins σ Q) X.xe s
def kH (X : Cx) (f : Value) (r : List V -> Hp -> VK -> Prop) : Prop :=
 ∀ (pins : List (Addr × Obj)) (s : Shared) (σ : St) (H : Hp) (xs : List V) (us : List Value) (Q : VK), Inv X pins σ H s -> bH xs us -> r xs H Q ->
  wpAny (model X.prog X.w) X.A (call f us) (EP X pins σ Q) X.xe s
def aM3 (X : Cx) (r : V -> Hp -> (Bool -> Hp -> Prop) -> Prop) : Prop :=
 ∀ (pins : List (Addr × Obj)) (s : Shared) (σ : St) (H : Hp) (x : V) (v : Value) (Q : Bool -> Hp -> Prop), Inv X pins σ H s -> a5 x v -> r x H Q ->
  wpAny (model X.prog X.w) X.A (truthy v) (TP X pins σ Q) X.xe s
def tOp (r : R2) (ta tb : TE) : TE := fun σ H Q => ta σ H fun x H1 => tb σ H1 fun y H2 => r x y H2 Q
def tUn (r : V -> Hp -> VK -> Prop) (ta : TE) : TE := fun σ H Q => ta σ H fun x H1 => r x H1 Q
def rI (C : Int -> Int -> Prop) (g : Int -> Int -> V) : R2 := fun x y H Q => ∃ i j, x = .int i /\ y = .int j /\ C i j /\ Q (g i j) H
def rI0 (g : Int -> Int -> V) : R2 := fun x y H Q => ∃ i j, x = .int i /\ y = .int j /\ Q (g i j) H
def rU (g : Int -> V) : V -> Hp -> VK -> Prop := fun x H Q => ∃ i, x = .int i /\ Q (g i) H
section
variable {X : Cx} {a b c : Expr} {ta tb tc : TE} {pos : Pos}
theorem aDV (ha : PE X a ta) (hb : PE X b tb) {pins : List (Addr × Obj)} {s : Shared} {σ : St} {H : Hp} {R : V -> V -> Hp -> Prop} (I : Inv X pins σ H s)
  (h : ta σ H fun x H1 => tb σ H1 fun y H2 => R x y H2) {Q : Value -> Shared -> Prop} {f : Value -> Value -> Sem Value}
  (hf : ∀ v u s2 x y H2, Inv X pins σ H2 s2 -> a5 x v -> a5 y u -> R x y H2 -> wpAny (model X.prog X.w) X.A (f v u) Q X.xe s2) :
  wpAny (model X.prog X.w) X.A (eval a X.env) (fun v s₁ => wpAny (model X.prog X.w) X.A (eval b X.env) (fun u s₂ => wpAny (model X.prog X.w) X.A (f v u) Q X.xe s₂) X.xe s₁) X.xe s := by
 refine thn (ha pins s σ H _ I h) fun v s1 ⟨x, H1, I1, r1, q1⟩ => ?_
 refine thn (hb pins s1 σ H1 _ I1 q1) fun u s2 ⟨y, H2, I2, r2, q2⟩ => ?_
 exact hf v u s2 x y H2 I2 r1 r2 q2
theorem aLV {op : Operator} {r : R2} (ho : OpR X (binaryOp op) r) (ha : PE X a ta) (hb : PE X b tb) : PE X (.BinOp a op b pos) (tOp r ta tb) := by
 intro pins s σ H Q I h
 exact wpAny_BinOp (aDV ha hb I h fun v u s2 x y H2 I2 rx ry q => ho pins s2 σ H2 x y v u Q I2 rx ry q)
theorem aLW {op : UnaryOp} {r : V -> Hp -> VK -> Prop} (ho : UnR X (unaryOp op) r) (ha : PE X a ta) : PE X (.UnaryOp op a pos) (tUn r ta) := by
 intro pins s σ H Q I h
 exact UnaryOp_ (thn (ha pins s σ H _ I h) fun v s1 ⟨x, H1, I1, r1, q1⟩ => ho pins s1 σ H1 x v Q I1 r1 q1)
theorem opI {f : Value -> Value -> Sem Value} {C : Int -> Int -> Prop} {g : Int -> Int -> Int}
  (rule : ∀ (i j : Int) (t u : Tok) (s : Shared) (Q : Value -> Shared -> Prop) (E : Value -> Shared -> Prop), C i j -> Q (.int (g i j) s.toks) { s with toks := s.toks + 1 } -> wpAny (model X.prog X.w) X.A (f (.int i t) (.int j u)) Q E s) :
  OpR X f (rI C fun i j => .int (g i j)) := by
 intro pins s σ H x y v u Q I rx ry h
 obtain ⟨i, j, rfl, rfl, hc, q⟩ := h
 obtain ⟨t, rfl⟩ := rx
 obtain ⟨t', rfl⟩ := ry
 exact rule i j t t' s _ _ hc ⟨.int (g i j), H, I.tok _, ⟨_, rfl⟩, q⟩
theorem aIZ {f : Value -> Value -> Sem Value} {g : Int -> Int -> Int}
  (rule : ∀ (i j : Int) (t u : Tok) (s : Shared) (Q : Value -> Shared -> Prop) (E : Value -> Shared -> Prop), Q (.int (g i j) s.toks) { s with toks := s.toks + 1 } -> wpAny (model X.prog X.w) X.A (f (.int i t) (.int j u)) Q E s) :
  OpR X f (rI0 fun i j => .int (g i j)) := by
 intro pins s σ H x y v u Q I rx ry h
 obtain ⟨i, j, rfl, rfl, q⟩ := h
 obtain ⟨t, rfl⟩ := rx
 obtain ⟨t', rfl⟩ := ry
 exact rule i j t t' s _ _ ⟨.int (g i j), H, I.tok _, ⟨_, rfl⟩, q⟩
theorem aAP {f : Value -> Value -> Sem Value} {g : Int -> Int -> Bool}
  (rule : ∀ (i j : Int) (t u : Tok) (s : Shared) (Q : Value -> Shared -> Prop) (E : Value -> Shared -> Prop), Q (.bool (g i j)) s -> wpAny (model X.prog X.w) X.A (f (.int i t) (.int j u)) Q E s) :
  OpR X f (rI0 fun i j => .bl (g i j)) := by
 intro pins s σ H x y v u Q I rx ry h
 obtain ⟨i, j, rfl, rfl, q⟩ := h
 obtain ⟨t, rfl⟩ := rx
 obtain ⟨t', rfl⟩ := ry
 exact rule i j t t' s _ _ ⟨.bl (g i j), H, I, rfl, q⟩
def aDW (i j : Int) : Prop := (-(2 ^ 64) < i /\ i < 2 ^ 64) \/ (-(2 ^ 64) < j /\ j < 2 ^ 64)
theorem aDW.ok {i j : Int} (h : aDW i j) : IntMulOk i j := by
 rcases h with ⟨h1, h2⟩ | ⟨h1, h2⟩
 · exact .of_left (intBits_le_64 h1 h2)
 · exact .of_right (intBits_le_64 h1 h2)
theorem aI0 : OpR X (binaryOp .Add) (rI0 fun i j => .int (i + j)) := aIZ fun _ _ _ _ _ _ _ q => add_int q
theorem aI1 : OpR X (binaryOp .Sub) (rI0 fun i j => .int (i - j)) := aIZ fun _ _ _ _ _ _ _ q => sub_int q
theorem aI2 : OpR X (binaryOp .Mult) (rI aDW fun i j => .int (i * j)) := opI fun _ _ _ _ _ _ _ hc q => mul_int q hc.ok
theorem aI3 : OpR X (binaryOp .Mod) (rI (fun _ j => 0 < j) fun i j => .int (i % j)) := opI fun i j _ _ _ _ _ hc q => by
 have h1 : (0 : Int) < j := hc
 exact mod_int' (by omega) (by rw [Int.fmod_eq_emod_of_nonneg i (by omega)]; exact q)
theorem unI {f : Value -> Sem Value} {g : Int -> Int}
  (rule : ∀ (i : Int) (t : Tok) (s : Shared) (Q : Value -> Shared -> Prop) (E : Value -> Shared -> Prop), Q (.int (g i) s.toks) { s with toks := s.toks + 1 } -> wpAny (model X.prog X.w) X.A (f (.int i t)) Q E s) :
  UnR X f (rU fun i => .int (g i)) := by
 intro pins s σ H x v Q I rx h
 obtain ⟨i, rfl, q⟩ := h
 obtain ⟨t, rfl⟩ := rx
 exact rule i t s _ _ ⟨.int (g i), H, I.tok _, ⟨_, rfl⟩, q⟩
theorem aI4 : UnR X (unaryOp .USub) (rU fun i => .int (-i)) := unI fun _ _ _ _ _ q => neg_int q
end
section
variable {X : Cx} {a b c : Expr} {ta tb tc : TE} {pos : Pos}
theorem aB1 {pins : List (Addr × Obj)} {σ : St} {H : Hp} {s : Shared} {Q : VK} {k k' : Bool} (I : Inv X pins σ H s) (q : Q (.bl k) H) (e : k = k') : EP X pins σ Q (.bool k') s := by
 subst e
 exact ⟨.bl k, H, I, rfl, q⟩
theorem aLX : OpR X (compareOp .Lt) (rI0 fun i j => .bl (decide (i < j))) := aAP fun _ _ _ _ _ _ _ q => lt_int q
theorem aLY : OpR X (compareOp .LtE) (rI0 fun i j => .bl (decide (i <= j))) := aAP fun _ _ _ _ _ _ _ q => le_int q
theorem aLZ : OpR X (compareOp .Gt) (rI0 fun i j => .bl (decide (j < i))) := aAP fun _ _ _ _ _ _ _ q => gt_int q
theorem aL0 : OpR X (compareOp .GtE) (rI0 fun i j => .bl (decide (j <= i))) := aAP fun _ _ _ _ _ _ _ q => ge_int q
theorem aI5 : OpR X (compareOp .Is) (fun x y H Q => y = .non /\ Q (.bl (decide (x = .non))) H) := by
 intro pins s σ H x y v u Q I rx ry h
 obtain ⟨rfl, q⟩ := h
 cases ry
 refine is_none_gen (aB1 I q ?_)
 cases x <;> first
  | (cases rx; rfl)
  | (obtain ⟨t, rfl⟩ := rx; rfl)
theorem aGC : OpR X (compareOp .IsNot) (fun x y H Q => y = .non /\ Q (.bl (!decide (x = .non))) H) := by
 intro pins s σ H x y v u Q I rx ry h
 obtain ⟨rfl, q⟩ := h
 cases ry
 refine isnot_none_gen (aB1 I q ?_)
 cases x <;> first
  | (cases rx; rfl)
  | (obtain ⟨t, rfl⟩ := rx; rfl)
theorem b8 (b : Expr) {op : CmpOp} (h : op ≠ .In := by decide) (h2 : op ≠ .NotIn := by decide) : behindInMarks op b = false := by
 have e1 : (op == CmpOp.In) = false := by cases op <;> first | rfl | exact absurd rfl h
 have e2 : (op == CmpOp.NotIn) = false := by cases op <;> first | rfl | exact absurd rfl h2
 cases b <;> simp [behindInMarks, e1, e2]
theorem aGD {op : CmpOp} {r : R2} (ho : OpR X (compareOp op) r) (ha : PE X a ta) (hb : PE X b tb) (hm : behindInMarks op b = false) : PE X (.Compare a [op] [b] pos) (tOp r ta tb) := by
 intro pins s σ H Q I h
 exact wpAny_Compare1 (aDV ha hb I h fun v u s2 x y H2 I2 rx ry q => ho pins s2 σ H2 x y v u Q I2 rx ry q) hm
def aFO (t : TE) : TT := fun σ H Q => t σ H fun x H' => ∃ k, x = .bl k /\ Q k H'
theorem j1 {op : CmpOp} {r : R2} (ho : OpR X (compareOp op) r) (ha : PE X a ta) (hb : PE X b tb) (hm : behindInMarks op b = false) : PT X (.Compare a [op] [b] pos) (aFO (tOp r ta tb)) := by
 intro pins s σ H Q I h
 refine wpAny_isTrue_Compare1 (thn (ha pins s σ H _ I h) fun v s1 ⟨x, H1, I1, r1, q1⟩ => thn (hb pins s1 σ H1 _ I1 q1) fun u s2 ⟨y, H2, I2, r2, q2⟩ =>
  thn (ho pins s2 σ H2 x y v u _ I2 r1 r2 q2) fun c s3 ⟨z, H3, I3, r3, k, e, q3⟩ => ?_) hm
 subst e
 cases r3
 exact wpAny_truthy_bool ⟨H3, I3, q3⟩
def aM4 (K : Frag) (x : V) (H : Hp) (k : Bool) : Prop :=
 match x with
 | .non => k = false
 | .bl b => k = b
 | .int i => k = (i != 0)
 | .str y => y.length <= sizeLine /\ k = ((y.length : Int) != 0)
 | .byt y => y.size <= sizeLine /\ k = ((y.size : Int) != 0)
 | .ref p => (∃ xs, SqL K H p xs /\ k = !xs.isEmpty) \/ (∃ xs, SqT K H p xs /\ k = !xs.isEmpty) \/ ∃ kvs, H p = some (.dK kvs) /\ k = !kvs.isEmpty
 | _ => False
theorem aAQ {κ : Type} {kvs : List (κ × V)} {vs : List (κ × Value)} (r : KV kvs vs) : (!vs.isEmpty) = !kvs.isEmpty := by
 cases r <;> rfl
theorem sN {xs : List V} {its : List Value} (r : bH xs its) : (!its.toArray.isEmpty) = !xs.isEmpty := by
 cases r <;> simp
theorem oY : (sizeLine : Nat) < 2 ^ 63 := by rw [sizeLine_eq]; decide
theorem aOJ : aM3 X (fun x H Q => ∃ k, aM4 X.K x H k /\ Q k H) := by
 intro pins s σ H x v Q I rx h
 obtain ⟨k, e, q⟩ := h
 have hl := oY
 have hs : sizeLine = 16777216 := sizeLine_eq
 cases x with
 | non =>
  cases rx
  have e' : k = false := e
  subst e'
  exact truthy_none ⟨H, I, q⟩
 | bl b =>
  cases rx
  have e' : k = b := e
  subst e'
  exact wpAny_truthy_bool ⟨H, I, q⟩
 | int i =>
  obtain ⟨t, rfl⟩ := rx
  have e' : k = (i != 0) := e
  subst e'
  exact PySem.P.truthy_int ⟨H, I, q⟩
 | str y =>
  obtain ⟨t, rfl⟩ := rx
  obtain ⟨hy, e'⟩ : y.length <= sizeLine /\ k = ((y.length : Int) != 0) := e
  subst e'
  exact PySem.P.truthy_str (by omega) ⟨H, I.tok _, q⟩
 | byt y =>
  obtain ⟨t, rfl⟩ := rx
  obtain ⟨hy, e'⟩ : y.size <= sizeLine /\ k = ((y.size : Int) != 0) := e
  subst e'
  exact PySem.W.truthy_bytes (by omega) ⟨H, I.tok _, q⟩
 | ref p =>
  cases rx
  have e' : (∃ xs, SqL X.K H p xs /\ k = !xs.isEmpty) \/ (∃ xs, SqT X.K H p xs /\ k = !xs.isEmpty) \/ ∃ kvs, H p = some (.dK kvs) /\ k = !kvs.isEmpty := e
  rcases e' with ⟨xs, hx, e'⟩ | ⟨xs, hx, e'⟩ | ⟨kvs, hx, e'⟩
  ·subst e'
   obtain ⟨its, r, pl, hz⟩ := I.list hx
   have hlen := r.length
   exact wpAny_truthy_list pl.isList (by simp only [List.size_toArray]; omega) ⟨H, I.tok _, by rw [sN r]; exact q⟩
  ·subst e'
   obtain ⟨its, r, pl, hz⟩ := I.tuple hx
   have hlen := r.length
   exact truthy_tuple pl (by simp only [List.size_toArray]; omega) ⟨H, I.tok _, by rw [sN r]; exact q⟩
  ·subst e'
   obtain ⟨hz, hS, vs, r, m⟩ : kvs.length <= sizeLine /\ (p == sysModules) = false /\ ∃ vs, KV kvs vs /\ s.heap.DictOf (c6 X.prog X.w) p vs := I.hok p _ hx
   have hlen : kvs.length = vs.length := Paired.length r
   exact wpAny_truthy_dict hS m (by omega) ⟨H, I.tok _, by rw [aAQ r]; exact q⟩
 | _ => exact (show False from e).elim
theorem aAR : OpR X (binaryOp .Add) (fun x y H Q => ∃ i j, x = .str i /\ y = .str j /\ i.length + j.length <= sizeLine /\ Q (.str (i ++ j)) H) := by
 intro pins s σ H x y v u Q I rx ry h
 obtain ⟨i, j, rfl, rfl, hz, q⟩ := h
 obtain ⟨t, rfl⟩ := rx
 obtain ⟨t', rfl⟩ := ry
 exact add_str (fun t' tk => ⟨.str (i ++ j), H, I.tok _, ⟨_, rfl⟩, q⟩) hz
theorem v7 {x : V} {us : List Value} (r : bH [x] us) : ∃ u, us = [u] /\ a5 x u := by
 cases r with
 | cons r1 r2 => cases r2; exact ⟨_, rfl, r1⟩
theorem v8 {x y : V} {us : List Value} (r : bH [x, y] us) : ∃ u w', us = [u, w'] /\ a5 x u /\ a5 y w' := by
 cases r with
 | cons r1 r2 =>
  cases r2 with
  | cons r3 r4 => cases r4; exact ⟨_, _, rfl, r1, r3⟩
theorem oZ : kH X (.type "int") (fun xs H Q => (∃ i, xs = [.int i] /\ Q (.int i) H) \/ ∃ k, xs = [.bl k] /\ Q (.int (if k then 1 else 0)) H) := by
 intro pins s σ H xs us Q I r h
 rcases h with ⟨i, rfl, q⟩ | ⟨k, rfl, q⟩
 ·obtain ⟨u, rfl, t, rfl⟩ := v7 r
  exact call_int_int ⟨.int i, H, I, ⟨_, rfl⟩, q⟩
 ·obtain ⟨u, rfl, r1⟩ := v7 r
  cases r1
  exact call_int_bool ⟨.int (if k then 1 else 0), H, I.tok _, ⟨_, rfl⟩, q⟩
def aI6 (K : Frag) (x : V) (H : Hp) (n : Nat) : Prop :=
 match x with
 | .str y => y.length <= sizeLine /\ n = y.length
 | .byt y => y.size <= sizeLine /\ n = y.size
 | .ref p => (∃ xs, SqL K H p xs /\ n = xs.length) \/ ∃ xs, SqT K H p xs /\ n = xs.length
 | _ => False
theorem b7 : kH X (.builtin "len") (fun xs H Q => ∃ x n, xs = [x] /\ aI6 X.K x H n /\ Q (.int n) H) := by
 intro pins s σ H xs us Q I r h
 obtain ⟨x, n, rfl, e, q⟩ := h
 obtain ⟨u, rfl, rx⟩ := v7 r
 have hl := oY
 have hs : sizeLine = 16777216 := sizeLine_eq
 cases x with
 | str y =>
  obtain ⟨t, rfl⟩ := rx
  obtain ⟨hy, e'⟩ : y.length <= sizeLine /\ n = y.length := e
  subst e'
  exact len_str (by omega) ⟨.int _, H, I.tok _, ⟨_, rfl⟩, q⟩
 | byt y =>
  obtain ⟨t, rfl⟩ := rx
  obtain ⟨hy, e'⟩ : y.size <= sizeLine /\ n = y.size := e
  subst e'
  exact PySem.W.len_bytes (by omega) ⟨.int _, H, I.tok _, ⟨_, rfl⟩, q⟩
 | ref p =>
  cases rx
  have e' : (∃ xs, SqL X.K H p xs /\ n = xs.length) \/ ∃ xs, SqT X.K H p xs /\ n = xs.length := e
  rcases e' with ⟨xs, hx, e'⟩ | ⟨xs, hx, e'⟩
  ·subst e'
   obtain ⟨its, r', pl, hz⟩ := I.list hx
   have hlen := r'.length
   exact Calls.call_len_list pl.isList (by simp only [List.size_toArray]; omega) ⟨.int xs.length, H, I.tok _, ⟨_, by simp only [List.size_toArray]; rw [hlen]⟩, q⟩
  ·subst e'
   obtain ⟨its, r', pl, hz⟩ := I.tuple hx
   have hlen := r'.length
   exact len_tuple pl (by simp only [List.size_toArray]; omega) ⟨.int xs.length, H, I.tok _, ⟨_, by simp only [List.size_toArray]; rw [hlen]⟩, q⟩
 | _ => exact (show False from e).elim
end
end L2
namespace L2
open PySem PySem.Spec PyProof.Rows
structure ObjM (h : Heap) (x dx C : Addr) (mA : Str -> Option Value) : Prop where
 obj : h.get? x = some (PySem.W.instObj C dx)
 ns : h.Ns1 dx mA
 ne : dx ≠ x
theorem o0 {h : Heap} {dx : Addr} {mA : Str -> Option Value} (n : h.Ns1 dx mA) : ∃ od, h.get? dx = some od /\ ∀ name, PySem.W.lookIn name od = some (mA name) := by
 obtain ⟨o, es, ep, ho, hd, hk, _, hm⟩ := n
 refine ⟨o, ho, fun name => ?_⟩
 have e := hm name
 unfold nsFind findBy at e
 rw [<- Array.find?_toList] at e
 unfold PySem.W.lookIn
 rw [hd]
 dsimp only
 split
 ·rename_i y q
  rw [q] at e
  exact congrArg some e
 ·rename_i q
  rw [q] at e
  have a : es.toList.any (·.refKey) = false := by
   rw [List.any_eq_false]
   intro y hy
   obtain ⟨z, t, hkey⟩ := hk y (Array.mem_toList_iff.mp hy)
   simp [DictEntry.refKey, hkey]
  have a' : ¬ es.toList.any (·.refKey) = true := by rw [a]; exact Bool.false_ne_true
  rw [if_neg a']
  exact congrArg some e
theorem ObjM.look {h : Heap} {x dx C : Addr} {mA : Str -> Option Value} (I : ObjM h x dx C mA) : ∃ od, PySem.W.InstAt h x (PySem.W.instObj C dx) C (some od) /\ ∀ name, PySem.W.lookIn name od = some (mA name) :=
 let ⟨od, ho, hl⟩ := o0 I.ns
 ⟨od, ⟨I.obj, rfl, rfl, ho⟩, hl⟩
section
variable {prog : Program} {w : World} {A : Around} {E : Value -> Shared -> Prop} {s : Shared} {K : Frag} {x dx C f : Addr} {mA : Str -> Option Value} {name : Str} {v : Value}
end
theorem mV.some_of {v : V} {o : Option Value} (r : mV (some v) o) : ∃ u, o = some u /\ a5 v u := by
 cases o with
 | none => exact (show False from r).elim
 | some u => exact ⟨u, rfl, r⟩
section
variable {P : Program} {w : World} {H H' : Hp} {h h' : Heap} {a C dx : Addr} {fs fs' : List (Str × V)}
theorem aGE (hok : HOk P w H h) (e : H a = some (.ins C dx fs)) : ∃ mA, ObjM h a dx C mA /\ (∀ f, mV (fs.lookup f) (mA f)) /\ PySem.Within mA (fs.map (·.1)) /\ fs.length <= 1000 /\ H dx = some (.own a) := by
 obtain ⟨d, z, ne, ob, mA, n, r, q⟩ := (show bZ P w H h a (.ins C dx fs) from hok a _ e)
 exact ⟨mA, ⟨ob, n, ne⟩, r, q, z, d⟩
end
structure Cls (K : Frag) (C : Addr) : Prop where
 pg : PySem.W.plainGet K C Str.empty = true
 hd : PySem.W.hasDictIn K C = true
 po : PySem.W.plainOver K C = true
 sa : PySem.W.findIn K (.ref C) "__setattr__" = some (some (.builtin "object.__setattr__"))
theorem Cls.get {K : Frag} {C : Addr} (c : Cls K C) (f : Str) : PySem.W.plainGet K C f = true := c.pg
structure Con (K : Frag) (C : Addr) (f : Str) (v : V) (u : Value) : Prop where
 at_ : PySem.W.findIn K (.ref C) f = some (some u)
 rel : a5 v u
 get : PySem.W.specialIn K u "__get__" = some none
 cp : PySem.W.copiedNames.contains f = false
structure Meth (K : Frag) (C : Addr) (m : Str) (f : Addr) : Prop where
 at_ : PySem.W.findIn K (.ref C) m = some (some (.ref f))
 fn : PySem.W.isFn K (.ref f) = true
 kp : PySem.W.keepIn K (.ref f) = true
section
variable {X : Cx} {pins : List (Addr × Obj)} {σ : St} {H : Hp} {s : Shared} {a C dx : Addr} {fs : List (Str × V)} {f : Str} {v : V} {A : Around} {E : Value -> Shared -> Prop}
end
section
variable {X : Cx} {pins : List (Addr × Obj)} {σ : St} {H : Hp} {s : Shared} {A : Around} {E : Value -> Shared -> Prop} {Q : Value -> Shared -> Prop} {c : Value} {b : Bool}
inductive TyOf (K : Frag) (H : Hp) : V -> Value -> Prop where
 | non : TyOf K H .non (.type "NoneType")
 | bl (x : Bool) : TyOf K H (.bl x) (.type "bool")
 | int (i : Int) : TyOf K H (.int i) (.type "int")
 | str (x : Str) : TyOf K H (.str x) (.type "str")
 | flt (x : UInt64) : TyOf K H (.flt x) (.type "float")
 | lst {a : Addr} {xs : List V} (e : H a = some (.lst xs)) : TyOf K H (.ref a) (.type "list")
 | frz {a : Addr} {o : Obj} {xs : List V} (e : H a = some (.frz o (.lst xs))) : TyOf K H (.ref a) (.type "list")
 | tup {a : Addr} {xs : List V} (e : H a = some (.tup xs)) : TyOf K H (.ref a) (.type "tuple")
 | dK {a : Addr} {kvs : List (Key × V)} (e : H a = some (.dK kvs)) : TyOf K H (.ref a) (.type "dict")
 | dT {a : Addr} {kvs : List (List Key × V)} (e : H a = some (.dT kvs)) : TyOf K H (.ref a) (.type "dict")
 | ins {a C dx : Addr} {fs : List (Str × V)} (e : H a = some (.ins C dx fs)) (cl : Cls K C) (ha : PySem.W.findIn K (.ref C) "__class__" = some (some (.builtin "object.__class__")))
  (hn : PySem.W.specialIn K (.builtin "object.__class__") "__get__" = some (some (.builtin "getset_descriptor.__get__"))) (htk : PySem.W.takesIn K (.builtin "object.__class__") = some true)
  (hm : PySem.W.mroIn K C (.type "object") = some true) : TyOf K H (.ref a) (.ref C)
theorem aB2 {x : V} {u t : Value} (I : Inv X pins σ H s) (rx : a5 x u) (ty : TyOf X.K H x t) (e : PySem.W.kitOne X.K t c = some b) (h : ∀ tk, Q (.bool b) { s with toks := tk }) :
  wpAny (model X.prog X.w) A (call (.builtin "isinstance") [u, c]) Q E s := by
 cases ty with
 | non => cases (show u = Value.none from rx); exact PySem.W.kia_one PySem.W.kitx_none I.kIn True.intro e (fun z => nomatch z) h
 | bl y => cases (show u = Value.bool y from rx); exact PySem.W.kia_one PySem.W.kitx_bool I.kIn True.intro e (fun z => nomatch z) h
 | int i => obtain ⟨t, q⟩ := (show ∃ t, u = Value.int i t from rx); cases q; exact PySem.W.kia_one PySem.W.kitx_int I.kIn True.intro e (fun z => nomatch z) h
 | str y => obtain ⟨t, q⟩ := (show ∃ t, u = Value.str y t from rx); cases q; exact PySem.W.kia_one PySem.W.kitx_str I.kIn True.intro e (fun z => nomatch z) h
 | flt y => obtain ⟨t, q⟩ := (show ∃ t, u = Value.float y t from rx); cases q; exact PySem.W.kia_one PySem.W.kitx_float I.kIn True.intro e (fun z => nomatch z) h
 | @lst a xs ea =>
  cases (show u = Value.ref a from rx)
  obtain ⟨_, _, n, _, h1⟩ := (show bZ X.prog X.w H s.heap a (.lst xs) from I.hok a _ ea)
  exact PySem.W.kia_one PySem.W.kitx_list I.kIn ⟨_, h1, rfl⟩ e (fun z => nomatch z) h
 | @frz a ob xs ea =>
  cases (show u = Value.ref a from rx)
  obtain ⟨_, _, _, n, _, h1⟩ := (show bZ X.prog X.w H s.heap a (.frz ob (.lst xs)) from I.hok a _ ea)
  exact PySem.W.kia_one PySem.W.kitx_list I.kIn ⟨_, h1, rfl⟩ e (fun z => nomatch z) h
 | @tup a xs ea =>
  cases (show u = Value.ref a from rx)
  obtain ⟨_, _, _, p⟩ := (show bZ X.prog X.w H s.heap a (.tup xs) from I.hok a _ ea)
  obtain ⟨o, h1, h2, _⟩ := p
  exact PySem.W.kia_one PySem.W.kitx_tuple I.kIn ⟨o, h1, h2⟩ e (fun z => nomatch z) h
 | @dK a kvs ea =>
  cases (show u = Value.ref a from rx)
  obtain ⟨_, _, vs, _, p⟩ := (show bZ X.prog X.w H s.heap a (.dK kvs) from I.hok a _ ea)
  obtain ⟨o, es, ep, h1, h2, _⟩ := p
  exact PySem.W.kia_one PySem.W.kitx_dict I.kIn ⟨o, h1, h2.1⟩ e (fun z => nomatch z) h
 | @dT a kvs ea =>
  cases (show u = Value.ref a from rx)
  obtain ⟨_, _, xs, _, o, es, ep, h1, h2, _⟩ := (show bZ X.prog X.w H s.heap a (.dT kvs) from I.hok a _ ea)
  exact PySem.W.kia_one PySem.W.kitx_dict I.kIn ⟨o, h1, h2.1⟩ e (fun z => nomatch z) h
 | @ins a C dx fs ea cl ha hn htk hm =>
  cases (show u = Value.ref a from rx)
  obtain ⟨mA, O, _⟩ := aGE I.hok ea
  obtain ⟨od, J, _⟩ := O.look
  exact PySem.W.kia_one (PySem.W.kitx_own (cl.get _) cl.hd ha hn htk hm) I.kIn J e (fun z => nomatch z) h
end
end L2
namespace L2
open PySem PySem.Spec PyProof.Rows
structure Room (k : Nat) (A : Around) : Prop where
 hd : A.handled = none
 dp : A.depth + 3 * k + 5 < recursionLimit
 un : A.units + 16 * k + 200 < cLine
theorem Room.mono {j k : Nat} {A : Around} (r : Room k A) (h : j <= k) : Room j A := ⟨r.hd, by have := r.dp; omega, by have := r.un; omega⟩
theorem Room.deeper {k : Nat} {A : Around} (r : Room (k + 1) A) (env : Env) : Room k (A.deeper env) :=
 ⟨r.hd, by have := r.dp; show A.depth + 1 + 3 * k + 5 < _; omega, by have := r.un; show A.units + 3 + 16 * k + 200 < _; omega⟩
theorem Room.depth {k : Nat} {A : Around} (r : Room k A) : A.depth < recursionLimit := by have := r.dp; omega
theorem Room.units {k : Nat} {A : Around} (r : Room k A) : A.units + 64 < cLine := by have := r.un; omega
def lR : TA := fun _ H Q => Q [] H
def gW (ta : TE) (tr : TA) : TA := fun σ H Q => ta σ H fun x H1 => tr σ H1 fun xs H2 => Q (x :: xs) H2
section
variable {X : Cx} {e : Expr} {es : List Expr} {te : TE} {t : TA} {pos : Pos}
theorem aS : PA X [] lR := fun _ _ _ _ H Q I h => Calls.spliced_nil ⟨[], H, I, .nil, h⟩
theorem aI (ha : PE X e te) (hr : PA X es t) (hs : starEach (e :: es) X.env = (false, eval e X.env) :: starEach es X.env := by rfl) : PA X (e :: es) (gW te t) := by
 intro pos pins s σ H Q I h
 rw [hs]
 show wpAny _ _ (spliced ((false, eval e X.env) :: backTo pos (starEach es X.env))) _ _ s
 refine Calls.spliced_cons (thn (ha pins s σ H _ I h) fun u s1 ⟨x, H1, I1, r1, q1⟩ => ?_)
 exact thn (hr pos pins s1 σ H1 _ I1 q1) fun us s2 ⟨xs, H2, I2, r2, q2⟩ => ⟨x :: xs, H2, I2, .cons r1 r2, q2⟩
def aM5 (t : TA) : TE := fun σ H Q => t σ H fun xs H1 => xs.length <= sizeLine /\ ∀ p, H1 p = none -> Q (.ref p) (upd H1 p (.tup xs))
def aM6 (t : TA) : TE := fun σ H Q => t σ H fun xs H1 => xs.length <= sizeLine /\ ∀ p, H1 p = none -> Q (.ref p) (upd H1 p (.lst xs))
theorem aI7 {x1} (h : PA X es t) : PE X (.Tuple es x1 pos) (aM5 t) := by
 intro pins s σ H Q I hq
 refine wpAny_Tuple_spliced (thn (h pos pins s σ H _ I hq) fun us s1 ⟨xs, H1, I1, r, z, q⟩ => ⟨by rw [<- r.length]; exact z, ?_⟩)
 have hf : H1 s1.heap.objs.size = none := I1.hok.fresh (Nat.le_refl _)
 refine ⟨.ref s1.heap.objs.size, upd H1 s1.heap.objs.size (.tup xs), I1.laid (t' := s1.toks) (fun b u e => Heap.get?_push_of_some _ e) (Nat.le_refl _) ?_, rfl, q _ hf⟩
 exact ⟨z, us, r, ⟨_, Heap.get?_push_size _ rfl, rfl, _, rfl⟩⟩
theorem aI8 (h : PA X es t) : PE X (.List es pos) (aM6 t) := by
 intro pins s σ H Q I hq
 refine wpAny_List_spliced (thn (h pos pins s σ H _ I hq) fun us s1 ⟨xs, H1, I1, r, z, q⟩ => ⟨by rw [<- r.length]; exact z, ?_⟩)
 have hf : H1 s1.heap.objs.size = none := I1.hok.fresh (Nat.le_refl _)
 refine ⟨.ref s1.heap.objs.size, upd H1 s1.heap.objs.size (.lst xs), I1.laid (t' := s1.toks) (fun b u e => Heap.get?_push_of_some _ e) (Nat.le_refl _) ?_, rfl, q _ hf⟩
 exact ⟨z, us, 0, r, Heap.get?_push_size _ rfl⟩
end
abbrev Sp := List V -> Hp -> VK -> XK -> Prop
abbrev CXT := List Env -> Hp -> Shared -> XK -> Value -> Shared -> Prop
structure Env0 (P : Program) (w : World) (K : Frag) (mg : Str -> Option Value) (base : Heap) (A : Around) (outer : List Env) (s : Shared) (H : Hp) : Prop where
 frames : A.frames = some outer
 mod : Mod K mg base
 bs : ∀ b o, base.get? b = some o -> s.heap.get? b = some o /\ H b = none
 bsz : base.objs.size <= s.heap.objs.size
 funs : s.heap.FunFrames base outer
 frf : ∀ b ∈ frs outer, H b = none
 hok : HOk P w H s.heap
 bare : AllBare s.gens
def CE (outer : List Env) (P : Program) (w : World) (H : Hp) (s : Shared) (Q : VK) (u : Value) (s' : Shared) : Prop :=
 ∃ v H', s'.os = s.os /\ AllBare s'.gens /\ Un (frs outer) [] H H' s.heap s'.heap /\ HOk P w H' s'.heap /\ a5 v u /\ Q v H'
def CR (CX : CXT) (outer : List Env) (P : Program) (w : World) (H : Hp) (s : Shared) (Q : VK) (E : XK) (r : Result) (s' : Shared) : Prop :=
 match r with
 | .ok (.ret u) => CE outer P w H s Q u s'
 | .ok _ => False
 | .error e => CX outer H s E e s'
structure FnOk (P : Program) (w : World) (K : Frag) (mg : Str -> Option Value) (base : Heap) (CX : CXT) (k : Nat) (f : Addr) (fd : FuncData) (ps : List Str) (sp : Sp) : Prop where
 len : ∀ vs H Q E, sp vs H Q E -> vs.length = ps.length
 run : ∀ (A : Around) (outer : List Env) (s : Shared) (H : Hp) (args : Args) (us : List Value) (vs : List V) (Q : VK) (E : XK), Room k A -> Env0 P w K mg base A outer s H -> BindsTo s fd args (ps.zip us) -> bH vs us -> sp vs H Q E ->
  codeAny (model P w) A (.call (.ref f) args) (CR CX outer P w H s Q E) s
theorem FnOk.imp {P : Program} {w : World} {K : Frag} {mg : Str -> Option Value} {base : Heap} {CX : CXT} {k : Nat} {f : Addr} {fd : FuncData} {ps : List Str} {sp sp' : Sp} (F : FnOk P w K mg base CX k f fd ps sp)
  (h : ∀ vs H Q E, sp' vs H Q E -> sp vs H Q E) : FnOk P w K mg base CX k f fd ps sp' :=
 ⟨fun vs H Q E q => F.len vs H Q E (h _ _ _ _ q), fun A outer s H args us vs Q E hr he hb hv hs => F.run A outer s H args us vs Q E hr he hb hv (h _ _ _ _ hs)⟩
section
variable {X : Cx} {pins : List (Addr × Obj)} {σ : St} {H : Hp} {s s' : Shared}
theorem Inv.env0 (I : Inv X pins σ H s) : Env0 X.prog X.w X.K X.mg X.base X.A X.stack s H :=
 ⟨I.ok.frames, I.ok.mod, I.bs, Nat.le_trans I.ok.bsz I.sz, I.stack, I.stkFree, I.hok, I.bare⟩
theorem Inv.after {Q : VK} {u : Value} (I : Inv X pins σ H s) (h : CE X.stack X.prog X.w H s Q u s') : EP X pins σ Q u s' := by
 obtain ⟨v, H', os, bare, un, hok, r, q⟩ := h
 obtain ⟨hh, g, d, t, os'⟩ := s'
 obtain rfl : os' = s.os := os
 exact ⟨v, H', I.call (h' := hh) (g' := g) (d' := d) (t' := t) (ch := []) un hok bare (fun b z => absurd z (by simp)), r, q⟩
end
def p8 (sp : Sp) (dvs : List V) (E : XK) (t : TA) : TE := fun σ H Q => t σ H fun vs H1 => sp (vs ++ dvs) H1 Q E
def iE (K : Frag) (fd : FuncData) (ps : List Str) (ds : List Value) : Prop :=
 ∀ (s : Shared) (us : List Value), K.In s.heap -> (us ++ ds).length = ps.length -> BindsTo s fd ⟨us, []⟩ (ps.zip (us ++ ds))
theorem iE.all {K : Frag} {fd : FuncData} {ps : List Str} (h : ∀ us : List Value, us.length = ps.length -> bindArgs fd ⟨us, []⟩ = pure (ps.zip us)) : iE K fd ps [] := fun s us _ hl => by
 rw [List.append_nil] at hl ⊢
 exact .of_eq (h us hl)
def lS (CX : CXT) (X : Cx) (E : XK) : Prop := ∀ (pins : List (Addr × Obj)) (σ : St) (H : Hp) (s : Shared) (e : Value) (s' : Shared), Inv X pins σ H s -> CX X.stack H s E e s' -> X.xe e s'
section
variable {X : Cx} {CX : CXT} {k : Nat} {f C : Addr} {fd : FuncData} {ps : List Str} {sp : Sp} {dvs : List V} {ds : List Value} {E : XK} {x m : Str} {p pos apos : Pos} {e o : Expr} {es : List Expr} {ta : TE} {t : TA}
theorem aB3 {pins : List (Addr × Obj)} {σ : St} {H : Hp} {s : Shared} {Q : VK} {us : List Value} {vs : List V} (F : FnOk X.prog X.w X.K X.mg X.base CX k f fd ps sp) (hr : Room k X.A) (hb : iE X.K fd ps ds) (hd : bH dvs ds) (hx : lS CX X E)
  (I : Inv X pins σ H s) (r : bH vs us) (h : sp (vs ++ dvs) H Q E) : wpAny (model X.prog X.w) X.A (call (.ref f) us) (EP X pins σ Q) X.xe s := by
 have r2 : bH (vs ++ dvs) (us ++ ds) := r.append hd
 have hl : (us ++ ds).length = ps.length := by rw [<- r2.length]; exact F.len _ _ _ _ h
 refine wpAny_call (codeAny_mono (F.run X.A X.stack s H ⟨us, []⟩ (us ++ ds) (vs ++ dvs) Q E hr I.env0 (hb s us I.kIn hl) r2 h) fun r s' hq => ?_)
 cases r with
 | error e => exact hx pins σ H s e s' I hq
 | ok fl =>
  cases fl with
  | ret u => exact I.after hq
  | next => exact False.elim hq
  | brk => exact False.elim hq
  | cont => exact False.elim hq
theorem aGF (F : FnOk X.prog X.w X.K X.mg X.base CX k f fd ps sp) (hr : Room k X.A) (hg : Gl X x) (hm : X.mg x = some (.ref f)) (hk : PySem.W.keepIn X.K (.ref f) = true) (hb : iE X.K fd ps ds) (hd : bH dvs ds) (hx : lS CX X E)
  (ha : PA X (e :: es) t) (hdb : (x == ("__debug__" : Str)) = false := by decide) (he : starEach (e :: es) X.env = (false, eval e X.env) :: starEach es X.env := by rfl) (hpl : (backTo pos (starEach es X.env)).any (·.1) = false := by rfl) :
  PE X (.Call (.Name x p) (e :: es) [] pos) (p8 sp dvs E t) := by
 intro pins s σ H Q I h
 refine wpAny_Call_Name_kw (lH I hg hm ?_ hdb)
 refine PySem.W.callWith_K (h₀ := X.base) I.ok.mod.kin hk (thn (ha pos pins s σ H _ I h) fun us s1 ⟨vs, H1, I1, r, q⟩ => ⟨I1.kIn, ?_⟩) he hpl
 exact aB3 F hr hb hd hx I1 r q
structure Mk (K : Frag) (C f : Addr) : Prop where
 makes : PySem.W.makesIn K C = true
 init : PySem.W.findIn K (.ref C) "__init__" = some (some (.ref f))
 fn : PySem.W.isFn K (.ref f) = true
 kp : PySem.W.keepIn K (.ref C) = true
end
section
variable {X : Cx} {CX : CXT} {k : Nat} {f C : Addr} {fd : FuncData} {ps ks : List Str} {sp : Sp} {E : XK} {x m : Str} {p pos apos kpos : Pos} {e o : Expr} {es : List Expr} {kws : List Keyword} {te ta : TE} {t tk : TA} {nm : Option Str}
structure KBinds (K : Frag) (fd : FuncData) (ps ks : List Str) (g : List Value -> List Value -> List Value) (gV : List V -> List V -> List V) : Prop where
 to : ∀ (s : Shared) (us ws : List Value), K.In s.heap -> (g us ws).length = ps.length -> BindsTo s fd ⟨us, ks.zip ws⟩ (ps.zip (g us ws))
 rel : ∀ {vs : List V} {us : List Value} {zs : List V} {ws : List Value}, bH vs us -> bH zs ws -> bH (gV vs zs) (g us ws)
variable {g : List Value -> List Value -> List Value} {gV : List V -> List V -> List V}
end
structure FnScope (N P : List Str) (sc : Scope) : Prop where
 kind : sc.kind = .function
 co : sc.isCoroutine = false
 gen : sc.isGenerator = false
 nd : N.Nodup
 pre : N.take P.length = P
 par : ∀ x ∈ P, sc.names.lookup x = some .local \/ sc.names.lookup x = some .cell
 nofree : ∀ y ∈ sc.names, y.2 ≠ .free
theorem u7 {kindOf : Str -> Option NameKind} {x : Str} : ∀ {binds : List (Str × Value)} {m : Str -> Option Value}, (∀ v, (x, v) ∉ binds) -> bindL kindOf binds m x = m x
 | [], _, _ => rfl
 | (n, v) :: r, m, h => by
  unfold bindL
  rw [u7 fun w hw => h w (List.mem_cons_of_mem _ hw)]
  split
  ·have : x ≠ n := by rintro rfl; exact h v List.mem_cons_self
   simp [this]
  ·rfl
theorem u8 {kindOf : Str -> Option NameKind} {x : Str} : ∀ {binds : List (Str × Value)} {m : Str -> Option Value}, (∀ v, (x, v) ∉ binds) -> bindC kindOf binds m x = m x
 | [], _, _ => rfl
 | (n, v) :: r, m, h => by
  unfold bindC
  rw [u8 fun w hw => h w (List.mem_cons_of_mem _ hw)]
  split
  ·rfl
  ·have : x ≠ n := by rintro rfl; exact h v List.mem_cons_self
   simp [this]
theorem o3 {kindOf : Str -> Option NameKind} {x : Str} {v : Value} : ∀ {P : List Str} {vs : List Value} {i : Nat} {m : Str -> Option Value}, P.Nodup -> P[i]? = some x -> vs[i]? = some v -> kindOf x = some .local ->
  bindL kindOf (P.zip vs) m x = some v
 | [], _, _, _, _, h, _, _ => by simp at h
 | _ :: _, [], _, _, _, _, h, _ => by simp at h
 | p :: P, w :: vs, 0, m, nd, h1, h2, hk => by
  simp at h1 h2; subst h1; subst h2
  show bindL kindOf ((p, w) :: P.zip vs) m p = _
  unfold bindL
  rw [u7 fun v hv => (List.nodup_cons.mp nd).1 (List.of_mem_zip hv).1, if_pos hk]
  simp
 | p :: P, w :: vs, i + 1, m, nd, h1, h2, hk => by
  show bindL kindOf ((p, w) :: P.zip vs) m x = _
  unfold bindL
  exact o3 (i := i) (List.nodup_cons.mp nd).2 (by simpa using h1) (by simpa using h2) hk
theorem o4 {kindOf : Str -> Option NameKind} {x : Str} {v : Value} : ∀ {P : List Str} {vs : List Value} {i : Nat} {m : Str -> Option Value}, P.Nodup -> P[i]? = some x -> vs[i]? = some v -> kindOf x ≠ some .local ->
  bindC kindOf (P.zip vs) m x = some v
 | [], _, _, _, _, h, _, _ => by simp at h
 | _ :: _, [], _, _, _, _, h, _ => by simp at h
 | p :: P, w :: vs, 0, m, nd, h1, h2, hk => by
  simp at h1 h2; subst h1; subst h2
  show bindC kindOf ((p, w) :: P.zip vs) m p = _
  unfold bindC
  rw [u8 fun v hv => (List.nodup_cons.mp nd).1 (List.of_mem_zip hv).1, if_neg hk]
  simp
 | p :: P, w :: vs, i + 1, m, nd, h1, h2, hk => by
  show bindC kindOf ((p, w) :: P.zip vs) m x = _
  unfold bindC
  exact o4 (i := i) (List.nodup_cons.mp nd).2 (by simpa using h1) (by simpa using h2) hk
def start (N : List Str) (vs : List V) : St := vs.map some ++ List.replicate (N.length - vs.length) none
def j2 (CX : CXT) (P : Program) (w : World) (K : Frag) (mg : Str -> Option Value) (base : Heap) (N : List Str) (qual : Str) (scope : Scope) (f : Addr) (cd : Value) (A : Around) (outer : List Env) (s : Shared) (H : Hp) (E : XK) : Cx where
 prog := P
 w := w
 K := K
 mg := mg
 base := base
 A := A.deeper (envOfC qual scope s.heap.objs.size f cd)
 N := N
 s₀ := s
 H₀ := H
 env := envOfC qual scope s.heap.objs.size f cd
 outer := outer
 stack := envOfC qual scope s.heap.objs.size f cd :: outer
 ex := []
 calm := true
 fn := fun _ => true
 pn := []
 xe := fun e s' => wpAny (model P w) (A.deeper (envOfC qual scope s.heap.objs.size f cd)) (leaving (envOfC qual scope s.heap.objs.size f cd) e) (fun _ s'' => CX outer H s E e s'') (fun e' s'' => CX outer H s E e' s'') s'
theorem lT {sc : Scope} {n : Nat} {x : Str} (h : sc.names.lookup x = some .cell) : ∃ c, (cellsFrom n sc.names []).lookup x = some c := by
 have q := PySem.W.cellsFrom_some sc.names n [] (.inl h)
 exact Option.isSome_iff_exists.mp q
theorem aB4 {CX : CXT} {P : Program} {w : World} {K : Frag} {mg : Str -> Option Value} {base : Heap} {N ps : List Str} {qual : Str} {scope : Scope} {f : Addr} {cd : Value} {A : Around} {outer : List Env} {s s1 : Shared} {H : Hp} {E : XK} {us : List Value} {vs : List V}
  (S : FnScope N ps scope) (hd : A.handled = none) (e0 : Env0 P w K mg base A outer s H) (hl : vs.length = ps.length) (r : bH vs us)
  (x : InCallC s s.heap.objs.size (bindL (envOfC qual scope s.heap.objs.size f cd).kindOf (ps.zip us) fun _ => none) (cellsFrom (s.heap.objs.size + 1) scope.names []) (bindC (envOfC qual scope s.heap.objs.size f cd).kindOf (ps.zip us) fun _ => none) s1) :
  Inv (j2 CX P w K mg base N qual scope f cd A outer s H E) [] (start N vs) H s1 := by
 have hpl : ps.length <= N.length := by have := congrArg List.length S.pre; rw [List.length_take] at this; omega
 obtain ⟨h1, tk, rfl, hk⟩ := x.done
 have noA : ∀ b : Addr, b ∉ (j2 CX P w K mg base N qual scope f cd A outer s H E).ex := fun b z => absurd (show b ∈ ([] : List Addr) from z) (by simp)
 refine ⟨⟨e0.mod, S.kind, rfl, rfl, Nat.le_refl _, fun y z c h1 h2 => ?_, fun y hy => ?_, fun y c _ h => ?_, fun _ => hd, Around.frames_deeper e0.frames, .inr ⟨rfl, rfl⟩, fun b z => absurd z (noA b), e0.bs, e0.bsz, fun b _ _ => noA b, fun b z => absurd z (noA b), e0.funs, e0.frf⟩,
  rfl, e0.bare, Un.kept hk, ⟨_, x.toInCall.ns, fun i y v h1 h2 h3 => ?_⟩, fun y c h => ⟨_, x.cell y c h⟩, e0.hok.fresh (Nat.le_refl _), fun y c h => ?_, fun p hp => absurd (show p ∈ ([] : List (Addr × Obj)) from hp) (by simp), e0.hok.kept hk, ?_⟩
 ·exact name_of_addr x.apart (PySem.mem_of_lookup h1) (PySem.mem_of_lookup h2)
 ·have hy : scope.names.lookup y = some .cell \/ scope.names.lookup y = some .free := hy
  rcases hy with hy | hy
  ·exact lT hy
  ·exact absurd rfl (S.nofree _ (PySem.mem_of_lookup hy))
 ·exact Nat.le_of_lt (x.above y c (PySem.mem_of_lookup h))
 ·have hi : i < vs.length := by
   unfold start at h2
   by_cases hi : i < vs.length
   ·exact hi
   ·rw [List.getElem?_append_right (by simpa using hi)] at h2
    rw [List.getElem?_replicate] at h2
    split at h2 <;> cases h2
  have ha : vs[i]? = some v := by
   unfold start at h2
   rw [List.getElem?_append_left (by simpa using hi), List.getElem?_map] at h2
   cases e : vs[i]? with
   | none => rw [e] at h2; cases h2
   | some a => rw [e] at h2; cases h2; rfl
  obtain ⟨u, hu, rv⟩ := r.get ha
  have hp : ps[i]? = some y := by
   rw [<- S.pre, List.getElem?_take_of_lt (by omega)]; exact h1
  have ndP : ps.Nodup := by rw [<- S.pre]; exact S.nd.sublist (List.take_sublist _ _)
  refine ⟨u, rv, ?_⟩
  rcases S.par y (List.mem_of_getElem? hp) with k | k
  ·exact .inl ⟨k, o3 ndP hp hu k⟩
  ·obtain ⟨c, e⟩ := lT (n := s.heap.objs.size + 1) k
   refine .inr ⟨.inl k, c, e, ?_⟩
   have q := x.cell y c e
   rw [o4 ndP hp hu (by show scope.names.lookup y ≠ _; rw [k]; decide)] at q
   exact q
 ·exact e0.hok.fresh (Nat.le_of_lt (x.above y c (PySem.mem_of_lookup h)))
 ·unfold start
  show _ = N.length
  rw [List.length_append, List.length_map, List.length_replicate]
  omega
theorem aFP {CX : CXT} {P : Program} {w : World} {K : Frag} {mg : Str -> Option Value} {base : Heap} {k : Nat} {f : Addr} {name qual : Str} {params : Arguments} {body : List Stmt} {scope : Scope} {dV kV doc pm cdv ct oc : Value} {an od : Option Addr}
  {osl : Array (Option Value)} {N ps : List Str} {sp : Sp} (lk : K.lookup f = some ⟨oc, od, .func (PySem.W.fnOf name qual params body scope dV kV doc pm an cdv ct), osl⟩) (hcd : PySem.W.codeIn K cdv qual = true) (S : FnScope N ps scope)
  (len : ∀ vs H Q E, sp vs H Q E -> vs.length = ps.length)
  (hbody : ∀ (A : Around) (outer : List Env) (s : Shared) (H : Hp) (vs : List V) (Q : VK) (E : XK), Room k (A.deeper (envOfC qual scope s.heap.objs.size f cdv)) -> sp vs H Q E ->
   ∃ t, PSs (j2 CX P w K mg base N qual scope f cdv A outer s H E) body t /\ t { nx := fun _ H' => Q .non H', rt := Q } (start N vs) H) :
  FnOk P w K mg base CX (k + 1) f (PySem.W.fnOf name qual params body scope dV kV doc pm an cdv ct) ps sp := by
 refine ⟨len, fun A outer s H args us vs Q E hr e0 hb r hsp => ?_⟩
 have hl := len _ _ _ _ hsp
 have KX : K.In s.heap := e0.mod.kin.keeps fun b o e => (e0.bs b o e).1
 have lim : s.heap.NoLimit := e0.mod.nolimit.keeps fun b o e => (e0.bs b o e).1
 have hkind : ∀ y ∈ ps.zip us, scope.names.lookup y.1 = some .local \/ (scope.names.lookup y.1 = some .cell /\ ((cellsFrom (s.heap.objs.size + 1) scope.names []).lookup y.1).isSome = true) := fun ⟨n, v⟩ hy => by
  rcases S.par n (List.of_mem_zip hy).1 with q | q
  ·exact .inl q
  ·exact .inr ⟨q, PySem.W.cellsFrom_some _ _ _ (.inl q)⟩
 refine codeAny_call_function hr.depth (KX _ _ lk) rfl S.co S.gen rfl (PySem.W.codeRec_of KX hcd) (hb _ _ _ _ ?_)
 refine wpAny_newFunctionEnv_cells S.kind hkind fun env he s1 x => ?_
 subst he
 refine ⟨lim.keeps x.toInCall.keep, codeAny_func ?_⟩
 obtain ⟨t, ht, hq⟩ := hbody A outer s H vs Q E (hr.deeper _) hsp
 have I : Inv (j2 CX P w K mg base N qual scope f cdv A outer s H E) [] (start N vs) H s1 := aB4 S hr.hd e0 hl r x
 refine wpAny_mono (ht [] s1 (start N vs) H _ I hq) (fun fl s' hs => ?_) fun e s' hs => hs
 have fin : ∀ {σ' : St} {H' : Hp} {v : V} {u : Value}, Inv (j2 CX P w K mg base N qual scope f cdv A outer s H E) [] σ' H' s' -> a5 v u -> Q v H' -> CE outer P w H s Q u s' :=
  fun {σ' H' v u} J rv q => ⟨v, H', J.os, J.bare, J.base, J.hok, rv, q⟩
 cases fl with
 | ret u =>
  obtain ⟨v, σ', H', J, rv, q⟩ := hs
  exact fin J rv q
 | next =>
  obtain ⟨σ', H', J, q⟩ := hs
  exact fin (v := V.non) (u := Value.none) J rfl q
 | brk =>
  obtain ⟨_, _, _, q⟩ := hs
  exact False.elim q
 | cont =>
  obtain ⟨_, _, _, q⟩ := hs
  exact False.elim q
end L2
namespace L2
open PySem PySem.Spec PyProof.Rows
section
variable {X : Cx} {x : Str} {p pos : Pos} {e : Expr} {es : List Expr} {t : TA} {id T : String} {r : List V -> Hp -> VK -> Prop}
def tCB (r : List V -> Hp -> VK -> Prop) (t : TA) : TE := fun σ H Q => t σ H fun vs H1 => r vs H1 Q
theorem bD (hc : kH X (.builtin id) r) (hg : Gl X x) (hm : X.mg x = none) (hv : bootBuiltins x = some (.builtin id)) (ha : PA X (e :: es) t) (hn : x ≠ "__name__" := by decide) (hdb : (x == ("__debug__" : Str)) = false := by decide)
  (he : starEach (e :: es) X.env = (false, eval e X.env) :: starEach es X.env := by rfl) (hpl : (backTo pos (starEach es X.env)).any (·.1) = false := by rfl) : PE X (.Call (.Name x p) (e :: es) [] pos) (tCB r t) := by
 intro pins s σ H Q I h
 refine wpAny_Call_Name_kw (sM I hg hm hv ?_ hn hdb)
 exact PyProof.Rows.callWith_builtin1 (thn (ha pos pins s σ H _ I h) fun us s1 ⟨vs, H1, I1, r1, q1⟩ => hc pins s1 σ H1 vs us Q I1 r1 q1) he hpl
theorem cU (hc : kH X (.type T) r) (hg : Gl X x) (hm : X.mg x = none) (hv : bootBuiltins x = some (.type T)) (ha : PA X (e :: es) t) (hn : x ≠ "__name__" := by decide) (hdb : (x == ("__debug__" : Str)) = false := by decide)
  (he : starEach (e :: es) X.env = (false, eval e X.env) :: starEach es X.env := by rfl) (hpl : (backTo pos (starEach es X.env)).any (·.1) = false := by rfl) : PE X (.Call (.Name x p) (e :: es) [] pos) (tCB r t) := by
 intro pins s σ H Q I h
 refine wpAny_Call_Name_kw (sM I hg hm hv ?_ hn hdb)
 exact PyProof.Rows.callWith_type1 (thn (ha pos pins s σ H _ I h) fun us s1 ⟨vs, H1, I1, r1, q1⟩ => hc pins s1 σ H1 vs us Q I1 r1 q1) he hpl
end
end L2
namespace HT
open PySem PyProof.Rows
section
open PySem.SeqAt
open PySem.AutoSeq1 (wpAny_loadPart')
open PySem.MeetsSeq PySem.MeetsSeq2 PySem.MeetsSeq3
end
section
variable {prog : Program} {w : World} {A : Around} {E : Value -> Shared -> Prop} {s : Shared}
theorem aGG {t b : Addr} {vs ws : List Value} {Q : Value -> Shared -> Prop} (ht : IsTup s.heap t vs.toArray) (hb : IsTup s.heap b ws.toArray) (hv : vs ≠ [])
  (h1 : ws = [] -> Q (.ref t) s) (h2 : ws ≠ [] -> Q (.ref s.heap.objs.size) { s with heap := s.heap.push { cls := .type "tuple", data := .seq (vs ++ ws).toArray } })
  (hsz : vs.length + ws.length <= sizeLine) : wpAny (model prog w) A (binaryOp .Add (.ref t) (.ref b)) Q E s := by
 obtain ⟨⟨cls, dd, data, sl⟩, ho, hc, n, hd⟩ := id ht
 obtain ⟨⟨cls2, dd2, data2, sl2⟩, ho2, hc2, n2, hd2⟩ := id hb
 simp only at hc hd hc2 hd2
 subst hc hd hc2 hd2
 have e : vs.toArray ++ ws.toArray = (vs ++ ws).toArray := by simp
 by_cases hw : ws = []
 ·exact concat_meets ⟨_, ho, rfl⟩ ⟨_, ho2, rfl⟩ noFill_tuple_add seq_tuple_add PySem.F.slot_tuple_add PySem.F.entry_tuple_add (PySem.F.args_tuple_add_2 _ _)
   (tuple_addW1 t b vs.toArray ws.toArray n n2 dd dd2 sl sl2 (by simpa using hv) (by simp [hw])) ⟨ho, ho2, h1 hw⟩
 ·refine concat_meets ⟨_, ho, rfl⟩ ⟨_, ho2, rfl⟩ noFill_tuple_add seq_tuple_add PySem.F.slot_tuple_add PySem.F.entry_tuple_add (PySem.F.args_tuple_add_2 _ _)
   (tuple_addW2 t b vs.toArray ws.toArray n n2 dd dd2 sl sl2 (by simpa using hv) (by simpa using hw) (by rw [List.size_toArray, List.size_toArray]; exact hsz)) ⟨ho, ho2, ?_⟩
  rw [e]
  exact h2 hw
def sIx (n d : Nat) : Option Int -> Nat
 | none => d
 | some v => if v < 0 then (v + (n : Int)).toNat else min v.toNat n
theorem aI9 (n d : Nat) (hd : d <= n) (o : Option Int) : sIx n d o <= n := by
 cases o with
 | none => exact hd
 | some v =>
  show (if v < 0 then (v + (n : Int)).toNat else min v.toNat n) <= n
  by_cases hv : v < 0
  · rw [if_pos hv]; omega
  · rw [if_neg hv]; exact Nat.min_le_right _ _
theorem yZ (v : Int) (n d : Nat) : (if v < 0 then max (v + (n : Int)) 0 else min v (n : Int)) = ((sIx n d (some v) : Nat) : Int) := by
 show (if v < 0 then max (v + (n : Int)) 0 else min v (n : Int)) = (((if v < 0 then (v + (n : Int)).toNat else min v.toNat n) : Nat) : Int)
 by_cases hv : v < 0
 · simp only [if_pos hv]; omega
 · simp only [if_neg hv]; omega
theorem aAS (lo hi : Option Int) (n : Nat) : Builtin.Slice.sliceAdjust lo hi 1 (n : Int) = (((sIx n 0 lo : Nat) : Int), ((sIx n n hi : Nat) : Int)) := by
 have h1 : ¬ ((1 : Int) < 0) := by omega
 unfold Builtin.Slice.sliceAdjust
 simp only [h1, if_false]
 refine Prod.ext ?_ ?_
 ·cases lo with
  | none => rfl
  | some v => exact yZ v n 0
 ·cases hi with
  | none => rfl
  | some v => exact yZ v n n
theorem aAT (i j : Nat) : Builtin.Slice.slicePlaces (i : Int) (j : Int) 1 = j - i := by
 unfold Builtin.Slice.slicePlaces
 have h1 : (1 : Int) > 0 := by omega
 simp only [h1, if_true, Int.ediv_one]
 split <;> omega
theorem sO {v : Value} {o : Option Int} {Q : Option Int -> Shared -> Prop} (p : IsPart v o) (h : Q o s) : wpAny (model prog w) A (Builtin.Slice.slicePartIndex v) Q E s := by
 cases p with
 | none => exact slicePart_none h
 | int i t => exact slicePart_int h
theorem rL {sl : Addr} {vl vu : Value} {lo hi : Option Int} {n : Nat} {Q : Int × Int × Nat -> Shared -> Prop} (hs : s.heap.IsSliceOf sl vl vu .none) (pl : IsPart vl lo) (pu : IsPart vu hi)
  (h : Q (((sIx n 0 lo : Nat) : Int), 1, sIx n n hi - sIx n 0 lo) s) : wpAny (model prog w) A (Builtin.Slice.sliceApplied (.ref sl) (pure (n : Int))) Q E s := by
 obtain ⟨os, hos, hcs, hds⟩ := id hs
 unfold Builtin.Slice.sliceApplied Builtin.Slice.sliceFields
 refine wpAny_bind (wpAny_bind (wpAny_field hos hds (x := vl) rfl (wpAny_bind (wpAny_field hos hds (x := vu) rfl (wpAny_bind (wpAny_field hos hds (x := .none) rfl (wpAny_pure ?_)))))))
 refine wpAny_bind (slicePart_none ?_)
 show wpAny _ _ (if ((1 : Int) == 0) = true then _ else _) _ _ s
 rw [if_neg (by decide)]
 refine wpAny_bind (sO pl (wpAny_bind (sO pu (wpAny_bind (wpAny_pure ?_)))))
 show wpAny _ _ (match Builtin.Slice.sliceAdjust lo hi 1 (n : Int) with | (lo, hi) => pure (lo, (1 : Int), Builtin.Slice.slicePlaces lo hi 1)) _ _ s
 rw [aAS lo hi n]
 show wpAny _ _ (pure (((sIx n 0 lo : Nat) : Int), (1 : Int), Builtin.Slice.slicePlaces ((sIx n 0 lo : Nat) : Int) ((sIx n n hi : Nat) : Int) 1)) _ _ s
 rw [aAT]
 exact wpAny_pure h
theorem aDX (xs : Array Value) (i k : Nat) : ((List.range k).filterMap fun (m : Nat) => xs[((i : Int) + (m : Int) * 1).toNat]?).toArray = ((xs.toList.drop i).take k).toArray := by
 have e : (fun (m : Nat) => xs[((i : Int) + (m : Int) * 1).toNat]?) = fun m => xs[i + m]? := by
  funext m
  have : ((i : Int) + (m : Int) * 1).toNat = i + m := by omega
  rw [this]
 rw [e]
 have := pick_run xs i k
 rw [List.filterMap_map] at this
 have e2 : ((fun x => xs[x]?) ∘ fun x => i + x) = fun m => xs[i + m]? := rfl
 rw [e2] at this
 rw [this]
theorem qU {t sl : Addr} {items : Array Value} {vl vu : Value} {lo hi : Option Int} {Q : Value -> Shared -> Prop} (ht : IsTup s.heap t items) (hs : s.heap.IsSliceOf sl vl vu .none) (pl : IsPart vl lo) (pu : IsPart vu hi)
  (hw : ¬ (sIx items.size 0 lo = 0 /\ sIx items.size items.size hi = items.size))
  (h : Q (.ref s.heap.objs.size) { s with heap := s.heap.push { cls := .type "tuple", data := .seq ((items.toList.drop (sIx items.size 0 lo)).take (sIx items.size items.size hi - sIx items.size 0 lo)).toArray } })
  (hsz : items.size <= sizeLine) : wpAny (model prog w) A (getItem (.ref t) (.ref sl)) Q E s := by
 have htake : sizeOk (.seq ((items.toList.drop (sIx items.size 0 lo)).take (sIx items.size items.size hi - sIx items.size 0 lo)).toArray) := by
  show ((items.toList.drop (sIx items.size 0 lo)).take (sIx items.size items.size hi - sIx items.size 0 lo)).toArray.size <= sizeLine
  rw [List.size_toArray, List.length_take, List.length_drop, Array.length_toList]
  omega
 have hj : sIx items.size items.size hi <= items.size := aI9 _ _ (Nat.le_refl _) hi
 obtain ⟨os, hos, hcs, hds⟩ := id hs
 have hTs : s.TypeIs (.ref sl) "slice" := ⟨os, hos, hcs⟩
 unfold getItem
 try with_reducible refine wpAny_holding ?_
 first | refine wpAny_bind (wpAny_pure ?_) | skip
 refine wpAny_bind (wpAny_sequenceKey ht.typeIs (by decide) ?_)
 refine wpAny_bind (wpAny_callSpecial?_slot (name := Str.ofString "__getitem__") ht.typeIs PyProof.Rows.slot_tuple_getitem
  (wpAny_call_entry PyProof.Rows.slot_tuple_getitem ht.typeIs entry_tuple_getitem ?_ (args_tuple_getitem _ _)))
 show wpAny _ _ (Builtin.Tuple.tupleItemsOf (.ref t) >>= _) _ _ s
 refine wpAny_bind (tupleItemsOf_ ht ?_)
 refine wpAny_bind (wpAny_typeOf hTs ?_)
 rw [if_pos (by decide)]
 refine wpAny_bind (rL hs pl pu ?_)
 have hno : ¬ ((((sIx items.size 0 lo : Nat) : Int) == 0 && (1 : Int) == 1 && (sIx items.size items.size hi - sIx items.size 0 lo) == items.size) = true) := by
  intro q
  rw [Bool.and_eq_true, Bool.and_eq_true] at q
  have q1 : ((sIx items.size 0 lo : Nat) : Int) = 0 := eq_of_beq q.1.1
  have q2 : sIx items.size items.size hi - sIx items.size 0 lo = items.size := eq_of_beq q.2
  exact hw ⟨by omega, by omega⟩
 show wpAny _ _ (if (((sIx items.size 0 lo : Nat) : Int) == 0 && (1 : Int) == 1 && (sIx items.size items.size hi - sIx items.size 0 lo) == items.size) = true then _ else _) _ _ s
 rw [if_neg hno, aDX]
 first
  | exact wpAny_bind (m := Builtin.Tuple.tupleExact _) (wpAny_newObj_type (wpAny_pure ⟨_, rfl, wpAny_pure h⟩) htake)
  | exact wpAny_bind (m := Builtin.Tuple.tupleExact _) (wpAny_newObj_type (wpAny_bind (wpAny_pure (wpAny_pure ⟨_, rfl, wpAny_pure h⟩))) htake)
  | exact wpAny_bind (wpAny_bind (m := Builtin.Tuple.tupleExact _) (wpAny_newObj_type (wpAny_pure (wpAny_pure ⟨_, rfl, wpAny_pure h⟩)) htake))
  | exact wpAny_bind (wpAny_bind (m := Builtin.Tuple.tupleExact _) (wpAny_newObj_type (wpAny_pure ⟨_, rfl, wpAny_pure h⟩) htake))
end
end HT
namespace L2
open PySem PySem.Spec PyProof.Rows
abbrev TO := St -> Hp -> (Option Int -> Hp -> Prop) -> Prop
def PO (X : Cx) (e : Option Expr) (t : TO) : Prop :=
 ∀ (pins : List (Addr × Obj)) (s : Shared) (σ : St) (H : Hp) (Q : Option Int -> Hp -> Prop), Inv X pins σ H s -> t σ H Q ->
  wpAny (model X.prog X.w) X.A (evalPart e X.env) (fun u s' => ∃ o H', Inv X pins σ H' s' /\ IsPart u o /\ Q o H') X.xe s
def aGH : TO := fun _ H Q => Q none H
def aL1 (t : TE) : TO := fun σ H Q => t σ H fun x H1 => ∃ i, x = .int i /\ Q (some i) H1
section
variable {X : Cx} {e : Expr} {te : TE} {lo hi : Option Expr} {tl th : TO} {pos p2 : Pos}
theorem aGI : PO X none aGH := by
 intro pins s σ H Q I h
 rw [evalPart_none]
 exact wpAny_pure ⟨none, H, I, .none, h⟩
theorem aGJ (h : PE X e te) : PO X (some e) (aL1 te) := by
 intro pins s σ H Q I hw
 rw [evalPart_some]
 refine thn (h pins s σ H _ I hw) fun u s1 ⟨x, H1, I1, r1, q1⟩ => ?_
 obtain ⟨i, rfl, q⟩ := q1
 obtain ⟨t, rfl⟩ := r1
 exact ⟨some i, H1, I1, .int i t, q⟩
def SlR (X : Cx) (r : V -> Option Int -> Option Int -> Hp -> VK -> Prop) : Prop :=
 ∀ (pins : List (Addr × Obj)) (s : Shared) (σ : St) (H : Hp) (x : V) (v vl vu : Value) (lo hi : Option Int) (sl : Addr) (Q : VK), Inv X pins σ H s -> a5 x v -> s.heap.IsSliceOf sl vl vu .none -> IsPart vl lo -> IsPart vu hi -> r x lo hi H Q ->
  ∃ T id, typeLookup (.type T) "__getitem__" = pure (some (.builtin id)) /\ s.TypeIs v T /\ wpAny (model X.prog X.w) X.A (getItem v (.ref sl)) (EP X pins σ Q) X.xe s
def tSl (r : V -> Option Int -> Option Int -> Hp -> VK -> Prop) (te : TE) (tl th : TO) : TE := fun σ H Q => te σ H fun x H1 => tl σ H1 fun l H2 => th σ H2 fun u H3 => r x l u H3 Q
theorem aDY {r : V -> Option Int -> Option Int -> Hp -> VK -> Prop} (hr : SlR X r) (he : PE X e te) (hl : PO X lo tl) (hu : PO X hi th) : PE X (.Subscript e (.Slice lo hi none p2) pos) (tSl r te tl th) := by
 intro pins s σ H Q I h
 refine Subscript_ (thn (he pins s σ H _ I h) fun v s1 ⟨x, H1, I1, r1, q1⟩ => ?_)
 refine wpAny_Slice (thn (hl pins s1 σ H1 _ I1 q1) fun vl s2 ⟨l, H2, I2, pl, q2⟩ => thn (hu pins s2 σ H2 _ I2 q2) fun vu s3 ⟨u, H3, I3, pu, q3⟩ => ?_)
 rw [evalPart_none]
 refine wpAny_pure ?_
 have I4 : Inv X pins σ H3 { s3 with heap := s3.heap.push { cls := .type "slice", data := .fields #[vl, vu, .none] } } := I3.kept (t' := s3.toks) fun b ob q => Heap.get?_push_of_some _ q
 obtain ⟨T, id, hT, ht, hg⟩ := hr pins { s3 with heap := s3.heap.push { cls := .type "slice", data := .fields #[vl, vu, .none] } } σ H3 x v vl vu l u s3.heap.objs.size Q I4 r1 (Heap.IsSliceOf.new ..) pl pu q3
 show wpAny (model X.prog X.w) X.A (subscriptTail e (.Slice lo hi none p2) v (.ref s3.heap.objs.size)) (EP X pins σ Q) X.xe { s3 with heap := s3.heap.push { cls := .type "slice", data := .fields #[vl, vu, .none] } }
 exact tail_any (ops := [.ref s3.heap.objs.size, v]) ht hT hg (by with_unfolding_all rfl)
def o5 (xs : List V) (lo hi : Option Int) : List V := (xs.drop (HT.sIx xs.length 0 lo)).take (HT.sIx xs.length xs.length hi - HT.sIx xs.length 0 lo)
theorem rC (xs : List V) (lo hi : Option Int) : (o5 xs lo hi).length <= xs.length := by
 unfold o5
 rw [List.length_take, List.length_drop]
 omega
def aM7 (K : Frag) : V -> Option Int -> Option Int -> Hp -> VK -> Prop := fun x lo hi H Q => ∃ a xs, x = .ref a /\ SqT K H a xs /\
 ¬ (HT.sIx xs.length 0 lo = 0 /\ HT.sIx xs.length xs.length hi = xs.length) /\ ∀ p, H p = none -> Q (.ref p) (upd H p (.tup (o5 xs lo hi)))
theorem aJA : SlR X (aM7 X.K) := by
 intro pins s σ H x v vl vu lo hi sl Q I rx hs pl pu h
 obtain ⟨a, xs, rfl, hx, hw, q⟩ := h
 cases rx
 obtain ⟨its, r, ht, hz⟩ := I.tuple hx
 have hlen : its.toArray.size = xs.length := by rw [List.size_toArray]; exact r.length.symm
 refine ⟨"tuple", _, PyProof.Rows.slot_tuple_getitem.lookup, ht.typeIs, ?_⟩
 refine HT.qU ht hs pl pu (by rw [hlen]; exact hw) ?_ (by rw [hlen]; exact hz)
 rw [hlen]
 refine ⟨.ref s.heap.objs.size, _, I.laid (t' := s.toks) (o := .tup (o5 xs lo hi)) (fun b ob q => Heap.get?_push_of_some _ q) (Nat.le_refl _) ?_, rfl, q _ (I.hok.fresh (Nat.le_refl _))⟩
 exact ⟨Nat.le_trans (rC xs lo hi) hz, _, (r.drop (HT.sIx xs.length 0 lo)).take (HT.sIx xs.length xs.length hi - HT.sIx xs.length 0 lo), IsTup.new _ _⟩
def aL2 (K : Frag) : R2 := fun x y H Q => ∃ a b xs ys, x = .ref a /\ y = .ref b /\ SqT K H a xs /\ SqT K H b ys /\ xs ≠ [] /\ xs.length + ys.length <= sizeLine /\
 (ys = [] -> Q (.ref a) H) /\ (ys ≠ [] -> ∀ p, H p = none -> Q (.ref p) (upd H p (.tup (xs ++ ys))))
theorem bH.nil_iff {xs : List V} {us : List Value} (r : bH xs us) : us = [] ↔ xs = [] := by
 cases r with
 | nil => simp
 | cons _ _ => simp
theorem aGK : OpR X (binaryOp .Add) (aL2 X.K) := by
 intro pins s σ H x y v u Q I rx ry h
 obtain ⟨a, b, xs, ys, rfl, rfl, ha, hb, hx, hz, q1, q2⟩ := h
 cases rx
 cases ry
 obtain ⟨its, r1, p1, _⟩ := I.tuple ha
 obtain ⟨its2, r2, p2, _⟩ := I.tuple hb
 refine HT.aGG p1 p2 (fun z => hx (r1.nil_iff.mp z)) (fun z => ⟨.ref a, H, I, rfl, q1 (r2.nil_iff.mp z)⟩) (fun z => ?_) (by rw [<- r1.length, <- r2.length]; exact hz)
 refine ⟨.ref s.heap.objs.size, _, I.laid (t' := s.toks) (o := .tup (xs ++ ys)) (fun b ob q => Heap.get?_push_of_some _ q) (Nat.le_refl _) ?_, rfl, q2 (fun w => z (r2.nil_iff.mpr w)) _ (I.hok.fresh (Nat.le_refl _))⟩
 exact ⟨by rw [List.length_append]; exact hz, _, r1.append r2, IsTup.new _ _⟩
end
end L2
namespace L2
open PySem PySem.Spec PyProof.Rows
def ixN (n : Nat) (i : Int) : Option Nat := if 0 <= i then (if i < n then some i.toNat else none) else if -(n : Int) <= i then some (i + n).toNat else none
def atI {α : Type} (xs : List α) (i : Int) : Option α := (ixN xs.length i).bind fun j => xs[j]?
theorem aGL {n : Nat} {i : Int} {j : Nat} (h : ixN n i = some j) : seqIndex? i n = some j /\ j < n /\ -(n : Int) <= i /\ i < n := by
 unfold ixN at h
 by_cases h0 : 0 <= i
 ·rw [if_pos h0] at h
  by_cases h1 : i < n
  ·rw [if_pos h1] at h
   have e : i.toNat = j := Option.some.inj h
   exact ⟨by rw [seqIndex_of h0 h1, e], by omega, by omega, h1⟩
  ·rw [if_neg h1] at h; cases h
 ·rw [if_neg h0] at h
  by_cases h1 : -(n : Int) <= i
  ·rw [if_pos h1] at h
   have e : (i + n).toNat = j := Option.some.inj h
   exact ⟨by rw [seqIndex_neg (by omega) h1, e], by omega, h1, by omega⟩
  ·rw [if_neg h1] at h; cases h
theorem t8 {α : Type} {xs : List α} {i : Int} {v : α} (h : atI xs i = some v) : ∃ j, seqIndex? i xs.length = some j /\ xs[j]? = some v /\ j < xs.length /\ -(xs.length : Int) <= i /\ i < xs.length := by
 unfold atI at h
 cases e : ixN xs.length i with
 | none => rw [e] at h; cases h
 | some j =>
  rw [e] at h
  obtain ⟨h1, h2, h3, h4⟩ := aGL e
  exact ⟨j, h1, h, h2, h3, h4⟩
theorem jE {α : Type} {xs : List α} {j : Nat} {v : α} (h : xs[j]? = some v) : atI xs (j : Int) = some v := by
 have hj : j < xs.length := (List.getElem?_eq_some_iff.mp h).1
 have e : ixN xs.length (j : Int) = some j := by
  unfold ixN
  rw [if_pos (by omega), if_pos (by omega)]; simp
 unfold atI; rw [e]; exact h
theorem aDZ {α : Type} (xs : List α) (v : α) : atI (xs ++ [v]) (-1) = some v := by
 have hl : (xs ++ [v]).length = xs.length + 1 := by simp
 have e : ixN (xs ++ [v]).length (-1) = some xs.length := by
  unfold ixN
  rw [hl, if_neg (by decide), if_pos (by omega)]
  congr 1
  omega
 unfold atI
 rw [e]
 show (xs ++ [v])[xs.length]? = some v
 simp
def y6 (b : Expr) : Prop := ∀ o i, subscripted b false o i = operate [o, i] (getItem o i)
def IxR (X : Cx) (r : R2) : Prop :=
 ∀ (value slice : Expr) (pins : List (Addr × Obj)) (s : Shared) (σ : St) (H : Hp) (x y : V) (v u : Value) (Q : VK), Inv X pins σ H s -> a5 x v -> a5 y u -> r x y H Q ->
  subscripted slice false v u = operate [v, u] (getItem v u) -> wpAny (model X.prog X.w) X.A (subscriptTail value slice v u) (EP X pins σ Q) X.xe s
def MtR (X : Cx) (id : String) (r : V -> List V -> Hp -> VK -> Prop) : Prop :=
 ∀ (pins : List (Addr × Obj)) (s : Shared) (σ : St) (H : Hp) (x : V) (xs : List V) (v : Value) (us : List Value) (Q : VK), Inv X pins σ H s -> a5 x v -> bH xs us -> r x xs H Q ->
  wpAny (model X.prog X.w) X.A (call (.builtin id) (v :: us)) (EP X pins σ Q) X.xe s
section
variable {X : Cx} {a b : Expr} {ta tb : TE} {pos : Pos}
theorem aL3 {r : R2} (hr : IxR X r) (ha : PE X a ta) (hb : PE X b tb) (hs : y6 b) : PE X (.Subscript a b pos) (tOp r ta tb) := by
 intro pins s σ H Q I h
 exact Subscript_ (aDV ha hb I h fun v u s2 x y H2 I2 rx ry q => hr a b pins s2 σ H2 x y v u Q I2 rx ry q (hs _ _))
def aM8 (K : Frag) : R2 := fun x y H Q => ∃ p xs i v, x = .ref p /\ y = .int i /\ SqL K H p xs /\ atI xs i = some v /\ Q v H
def aM9 (K : Frag) : R2 := fun x y H Q => ∃ p xs i v, x = .ref p /\ y = .int i /\ SqT K H p xs /\ atI xs i = some v /\ Q v H
def aNA : R2 := fun x y H Q => ∃ z i c, x = .str z /\ y = .int i /\ z.length <= sizeLine /\ atI z.cps.toList i = some c /\ Q (.str ⟨#[c]⟩) H
theorem aGM : IxR X (aM8 X.K) := by
 intro value slice pins s σ H x y v u Q I rx ry h hs
 obtain ⟨p, xs, i, z, rfl, rfl, hq, he, q⟩ := h
 cases rx
 obtain ⟨t, rfl⟩ := ry
 obtain ⟨its, r, pl, hz⟩ := I.list hq
 obtain ⟨j, h1, h2, h3, h4, h5⟩ := t8 he
 obtain ⟨w, ew, rw'⟩ := r.get h2
 have hl := r.length
 have hn := oY
 have fin : EP X pins σ Q w s := ⟨z, H, I, rw', q⟩
 by_cases h0 : 0 <= i
 ·have hj : i.toNat = j := by
   rw [seqIndex_of h0 h5] at h1
   exact Option.some.inj h1
  exact item_listR pl.isList h0 (by omega) (by rw [hj]; simpa using ew) fin hs
 ·have hj : (i + (its.toArray.size : Int)).toNat = j := by
   rw [seqIndex_neg (by omega) h4] at h1
   rw [List.size_toArray, <- hl]
   exact Option.some.inj h1
  exact subscriptTail_builtinR (x := w) pl.isList.typeIs slot_list_getitem.lookup
   (wpAny_getItem_list_neg (Q := fun r s' => r = w /\ EP X pins σ Q r s') pl.isList (by omega) (by rw [List.size_toArray] <;> omega) (by omega) (by rw [hj]; simpa using ew) ⟨rfl, fin⟩) hs
theorem aJB : IxR X (aM9 X.K) := by
 intro value slice pins s σ H x y v u Q I rx ry h hs
 obtain ⟨p, xs, i, z, rfl, rfl, hq, he, q⟩ := h
 cases rx
 obtain ⟨t, rfl⟩ := ry
 obtain ⟨its, r, pl, hz⟩ := I.tuple hq
 obtain ⟨j, h1, h2, h3, h4, h5⟩ := t8 he
 obtain ⟨w, ew, rw'⟩ := r.get h2
 have hl := r.length
 have hn := oY
 have fin : EP X pins σ Q w s := ⟨z, H, I, rw', q⟩
 exact subscriptTail_builtinR (x := w) pl.typeIs slot_tuple_getitem.lookup
  (getItem_tuple (j := j) (Q := fun r s' => r = w /\ EP X pins σ Q r s') pl (by omega) (by omega) (by rw [List.size_toArray, <- hl]; exact h1) (by simpa using ew) ⟨rfl, fin⟩) hs
theorem aJC : IxR X aNA := by
 intro value slice pins s σ H x y v u Q I rx ry h hs
 obtain ⟨z, i, c, rfl, rfl, hz, he, q⟩ := h
 obtain ⟨t, rfl⟩ := rx
 obtain ⟨t', rfl⟩ := ry
 obtain ⟨j, h1, h2, h3, h4, h5⟩ := t8 he
 have hl : z.cps.toList.length = z.length := by simp [Str.length]
 rw [hl] at h1 h4 h5
 have hn := oY
 exact tail_any (typeIs_str s z t) slot_str_getitem.lookup (getItem_str (c := c) (by
  have e1 : decide (i < -(2 ^ 63 : Int)) = false := decide_eq_false (by omega)
  have e2 : decide (i >= 2 ^ 63) = false := decide_eq_false (by omega)
  rw [e1, e2, Bool.or_false]) (by rw [h1]; simpa using h2) ⟨.str ⟨#[c]⟩, H, I.tok _, ⟨_, rfl⟩, q⟩) hs
theorem wH (lo hi : Option Int) (n : Nat) : (sliceBounds lo hi none n).1 = ((HT.sIx n 0 lo : Nat) : Int) /\ (sliceBounds lo hi none n).2.1 = ((HT.sIx n n hi : Nat) : Int) /\ (sliceBounds lo hi none n).2.2 = 1 := by
 refine ⟨?_, ?_, rfl⟩
 ·cases lo with
  | none => simp [sliceBounds, HT.sIx]
  | some i =>
   simp only [sliceBounds, HT.sIx, Option.getD_none, show (1 : Int) > 0 by decide, if_true]
   by_cases h : i < 0
   · simp only [h, if_true] <;> omega
   · simp only [h, if_false] <;> omega
 ·cases hi with
  | none => simp [sliceBounds, HT.sIx]
  | some i =>
   simp only [sliceBounds, HT.sIx, Option.getD_none, show (1 : Int) > 0 by decide, if_true]
   by_cases h : i < 0
   · simp only [h, if_true] <;> omega
   · simp only [h, if_false] <;> omega
theorem vZ (its : List Value) (lo hi : Option Int) : slicePick its.toArray lo hi none = ((its.drop (HT.sIx its.length 0 lo)).take (HT.sIx its.length its.length hi - HT.sIx its.length 0 lo)).toArray := by
 obtain ⟨h1, h2, h3⟩ := wH lo hi its.toArray.size
 unfold slicePick
 rw [h1, h2, h3]
 simp only [sliceRange_one, pick_run, List.size_toArray] <;> rfl
def aNB (K : Frag) : V -> Option Int -> Option Int -> Hp -> VK -> Prop := fun x lo hi H Q => ∃ a xs, x = .ref a /\ SqL K H a xs /\ ∀ p, H p = none -> Q (.ref p) (upd H p (.lst (o5 xs lo hi)))
theorem aGN : SlR X (aNB X.K) := by
 intro pins s σ H x v vl vu lo hi sl Q I rx hs pl pu h
 obtain ⟨a, xs, rfl, hx, q⟩ := h
 cases rx
 obtain ⟨its, r, ht, hz⟩ := I.list hx
 have hlen := r.length
 refine ⟨"list", _, slot_list_getitem.lookup, ht.isList.typeIs, ?_⟩
 refine wpAny_getItem_list_slice ht.isList hs pl pu .none (by simp) ?_ (by rw [List.size_toArray] <;> omega)
 rw [vZ, <- hlen]
 refine ⟨.ref s.heap.objs.size, _, I.laid (t' := s.toks) (o := .lst (o5 xs lo hi)) (fun b ob q => Heap.get?_push_of_some _ q) (Nat.le_refl _) ?_, rfl, q _ (I.hok.fresh (Nat.le_refl _))⟩
 exact ⟨Nat.le_trans (rC xs lo hi) hz, _, 0, (r.drop (HT.sIx xs.length 0 lo)).take (HT.sIx xs.length xs.length hi - HT.sIx xs.length 0 lo), Heap.get?_push_size _ rfl⟩
theorem cF : kH X (.type "tuple") (fun xs H Q => ∃ p ys, xs = [.ref p] /\ ((SqL X.K H p ys /\ ∀ l, H l = none -> Q (.ref l) (upd H l (.tup ys))) \/ (SqT X.K H p ys /\ Q (.ref p) H))) := by
 intro pins s σ H xs us Q I r h
 obtain ⟨p, ys, rfl, h⟩ := h
 obtain ⟨u, rfl, rx⟩ := v7 r
 cases rx
 rcases h with ⟨hq, q⟩ | ⟨hq, q⟩
 ·obtain ⟨its, r', pl, hz⟩ := I.list hq
  have hlen := r'.length
  refine call_tuple_list pl.isList (fun h' kp => ?_) (by simp only [List.size_toArray] <;> omega)
  have I1 : Inv X pins σ H { s with heap := h' } := I.kept (t' := s.toks) kp
  have I2 : Inv X pins σ (upd H h'.objs.size (.tup ys)) { s with heap := h'.push { cls := .type "tuple", data := .seq its.toArray } } :=
   I1.laid (t' := s.toks) (fun b o e => Heap.get?_push_of_some _ e) (Nat.le_refl _) (show bZ X.prog X.w _ _ _ (.tup ys) from ⟨hz, its, r', IsTup.new _ _⟩)
  exact ⟨.ref h'.objs.size, _, I2, rfl, q _ (I1.hok.fresh (Nat.le_refl _))⟩
 ·obtain ⟨its, r', pl, hz⟩ := I.tuple hq
  exact call_tuple_same pl ⟨.ref p, H, I, rfl, q⟩
def tyV (K : Frag) (T : String) (x : V) (H : Hp) : Prop := match x with
 | .str _ => T = "str"
 | .int _ => T = "int"
 | .ref p => (T = "list" /\ ∃ xs, SqL K H p xs) \/ (T = "tuple" /\ ∃ o, K.lookup p = some o /\ o.cls = .type "tuple" /\ o.dict = none) \/
  (T = "dict" /\ ((∃ kvs, H p = some (.dK kvs)) \/ ∃ kvs, H p = some (.dT kvs))) \/ (T = "set" /\ ∃ S n, H p = some (.set S n))
 | _ => False
theorem aJD {pins : List (Addr × Obj)} {σ : St} {H : Hp} {s : Shared} {T : String} {x : V} {v : Value} (I : Inv X pins σ H s) (r : a5 x v) (ty : tyV X.K T x H) :
  s.TypeIs v T /\ ∀ a, v = .ref a -> ∃ ob, s.heap.get? a = some ob /\ ob.dict = none := by
 cases x with
 | str z =>
  obtain ⟨t, rfl⟩ := r
  cases (show T = "str" from ty)
  exact ⟨typeIs_str s z t, fun _ e => nomatch e⟩
 | int i =>
  obtain ⟨t, rfl⟩ := r
  cases (show T = "int" from ty)
  exact ⟨typeIs_int s i t, fun _ e => nomatch e⟩
 | ref p =>
  cases r
  rcases ty with ⟨rfl, xs, hq⟩ | ⟨rfl, o, hk, hc, hd⟩ | ⟨rfl, hk⟩ | ⟨rfl, S, n, hk⟩
  ·obtain ⟨its, _, pl, _⟩ := I.list hq
   refine ⟨pl.isList.typeIs, fun a e => ?_⟩
   cases e
   obtain ⟨o, n, e, c, hd, _⟩ := pl
   exact ⟨o, e, hd⟩
  ·refine ⟨⟨o, I.kIn p o hk, hc⟩, fun a e => ?_⟩
   cases e
   exact ⟨o, I.kIn _ o hk, hd⟩
  ·have z : ∃ o, s.heap.get? p = some o /\ o.ExactDict := by
    rcases hk with ⟨kvs, hk⟩ | ⟨kvs, hk⟩
    ·obtain ⟨_, _, _, _, o, _, _, e, ex, _⟩ := I.hok p _ hk
     exact ⟨o, e, ex⟩
    ·obtain ⟨_, _, _, _, o, _, _, e, ex, _⟩ := I.hok p _ hk
     exact ⟨o, e, ex⟩
   obtain ⟨o, e, ex⟩ := z
   refine ⟨⟨o, e, ex.1⟩, fun a e2 => ?_⟩
   cases e2
   exact ⟨o, e, ex.2.1⟩
  ·obtain ⟨o, _, _, _, e, ex, _⟩ := I.hok p _ hk
   refine ⟨⟨o, e, ex.1⟩, fun a e2 => ?_⟩
   cases e2
   exact ⟨o, e, ex.2.1⟩
 | _ => exact False.elim ty
def tBM (K : Frag) (T : String) (r : V -> List V -> Hp -> VK -> Prop) (to : TE) (t : TA) : TE := fun σ H Q => to σ H fun x H1 => tyV K T x H1 /\ t σ H1 fun xs H2 => r x xs H2 Q
variable {o e : Expr} {es : List Expr} {to : TE} {t : TA} {name : Str} {apos cpos : Pos} {T id : String} {r : V -> List V -> Hp -> VK -> Prop}
theorem iY (pa : PlainAttrs T) (slot : Slot T name id) (hty : typeOf (.builtin id) = pure (.type "method_descriptor")) (hm : MtR X id r) (ho : PE X o to) (ha : PA X (e :: es) t)
  (hbase : attributeBase o name X.env (eval o X.env) = eval o X.env := by rfl)
  (hfew : ((backTo cpos (starEach (e :: es) X.env)).all (fun x => !x.1) && (backToKw cpos (keywordEach [] X.env)).all (fun x => x.1.isSome)
   && decide ((e :: es).length + ([] : List Keyword).length + (if ([] : List Keyword).isEmpty then 0 else 1) < 30)) = true := by rfl)
  (hline : (apos.endLine == cpos.line) = true := by rfl) (hs : starEach (e :: es) X.env = (false, eval e X.env) :: starEach es X.env := by rfl) (hplain : (backTo cpos (starEach es X.env)).any (·.1) = false := by rfl) :
  PE X (.Call (.Attribute o name apos) (e :: es) [] cpos) (tBM X.K T r to t) := by
 intro pins s σ H Q I h
 refine wpAny_Call_method_late hbase hfew hline rfl (thn (ho pins s σ H _ I h) fun v s1 ⟨x, H1, I1, r1, ty, q1⟩ => ?_)
 obtain ⟨h1, h2⟩ := aJD I1 r1 ty
 refine ⟨T, id, pa, slot, hty, h1, h2, ?_⟩
 have hA := ha cpos pins s1 σ H1 _ I1 q1
 rw [hs] at hA ⊢
 refine Calls.callWith_builtin (by show (false || (backTo cpos (starEach es X.env)).any (·.1)) = false; rw [hplain] <;> rfl) (Calls.evalArgs_plain ?_)
 exact thn hA fun us s2 ⟨vs, H2, I2, r2, q2⟩ => hm pins s2 σ H2 x vs v us Q I2 r1 r2 q2
end
end L2
namespace L2
open PySem PySem.Spec PyProof.Rows
def MtM (X : Cx) (id : String) (r : V -> List V -> Hp -> VK -> Prop) : Prop :=
 ∀ (pins : List (Addr × Obj)) (s : Shared) (σ : St) (H : Hp) (x : V) (xs : List V) (v : Value) (us : List Value) (Q : VK), Inv X pins σ H s -> a5 x v -> bH xs us -> r x xs H Q ->
  wpAny (model X.prog X.w) X.A (call (.builtin id) (v :: us)) (EP X pins σ Q) X.xe s
theorem bH.one : ∀ {x : V} {us : List Value}, bH [x] us -> ∃ u, us = [u] /\ a5 x u
 | _, _, .cons r .nil => ⟨_, rfl, r⟩
section
variable {X : Cx} {pins : List (Addr × Obj)} {σ : St} {H : Hp} {s : Shared} {l b : Addr} {xs ys zs : List V}
theorem Inv.lset {its its' : List Value} {n : Nat} {f : Array Value -> Array Value} {t' : Nat} (I : Inv X pins σ H s) (hH : H l = some (.lst xs))
  (e : s.heap.get? l = some { cls := .type "list", data := .seq its.toArray n }) (hf : f its.toArray = its'.toArray) (hv : bH ys its') (hz : ys.length <= sizeLine) :
  Inv X pins σ (upd H l (.lst ys)) { s with heap := s.heap.update l (Obj.mapSeq f), toks := t' } := by
 have q := PySem.IsL.update e f
 rw [hf] at q
 refine I.write (x := l) (e := l) (by rw [hH]; exact trivial) (.inl rfl) (fun b' u hb hu => (Heap.get?_update_other s.heap (Obj.mapSeq f) (Ne.symm hb)).trans hu) ⟨_, q⟩ ?_
 exact ⟨hz, its', _, hv, q⟩
theorem Inv.lstM (I : Inv X pins σ H s) (hH : H l = some (.lst xs)) : xs.length <= sizeLine /\ ∃ (its : List Value) (n : Nat), bH xs its /\ xs.length = its.length /\ s.heap.get? l = some { cls := .type "list", data := .seq its.toArray n } := by
 obtain ⟨z, its, n, r, e⟩ := I.hok l _ hH
 exact ⟨z, its, n, r, r.length, e⟩
end
section
variable {X : Cx}
def y7 : V -> List V -> Hp -> VK -> Prop := fun x vs H Q => ∃ l xs y, x = .ref l /\ vs = [y] /\ H l = some (.lst xs) /\ xs.length < sizeLine /\ Q .non (upd H l (.lst (xs ++ [y])))
theorem d4 : MtM X "list.append" y7 := by
 intro pins s σ H x vs v us Q I rx rv h
 obtain ⟨l, xs, y, rfl, rfl, hH, hz, q⟩ := h
 cases rx
 obtain ⟨u, rfl, ru⟩ := rv.one
 obtain ⟨z, its, n, r, hl, e⟩ := I.lstM hH
 refine call_meets F.slot_list_append ⟨_, e, rfl⟩ F.entry_list_append (F.args_list_append_2 _ _) (PySem.list_append l its.toArray n u (by rw [List.size_toArray]; omega)) ⟨e, ?_⟩
 refine ⟨.non, _, I.lset (its' := its ++ [u]) hH e (by simp) (r.append (.cons ru .nil)) ?_, rfl, q⟩
 rw [List.length_append, List.length_singleton]
 omega
end
end L2
namespace Att
open PySem PySem.W PySem.Calls PyProof.Rows
theorem sP {P : Params} {h : Heap} : ∀ (ns : List Int) (vs : List Value), WellAll P h vs (ns.map WData.int) -> IntsAre vs ns := by
 intro ns
 induction ns with
 | nil =>
  intro vs w
  rw [List.map_nil] at w
  cases w
  exact .nil
 | cons n ns ih =>
  intro vs w
  rw [List.map_cons] at w
  cases w with
  | cons a b =>
   cases a
   exact .cons _ _ (ih _ b)
theorem aB5 {l : OpenLaw} {n : Nat} (hn : l.most = some n) {P : Params} {h : Heap} {args : List WData} {vals : List Value}
  (hpre : l.row.toRowW.claim.pre args = true) (hwl : WellAll P h vals args) :
  ∃ a vs ns, vals = [Value.ref a] /\ args = [WData.list (ns.map WData.int)] /\ h.get? a = some { cls := .type "list", data := .seq vs.toArray } /\ IntsAre vs ns /\ ns.length <= n := by
 have hsh : WShape.hasAll [] args [.list .int] = true := (pre_splitW hpre).1
 have hc : l.pre.holds [] { args := args } = true := (pre_splitW hpre).2
 obtain ⟨d, r, rfl, h1, h2⟩ := hasAllW_cons hsh
 obtain rfl := hasAllW_nil h2
 obtain ⟨xs, rfl, h3⟩ := hasW_list h1
 obtain ⟨ns, rfl⟩ := items_int h3
 have hlen : ns.length <= n := by
  unfold OpenLaw.pre at hc
  have h4 : (WTm.not (.lt (.lit (.int (n : Int))) (.len (.arg 0)))).holds [] { args := [.list (ns.map .int)] } = true := by
   have h4 := (holds_andW hc).1
   rw [hn] at h4
   exact h4
  have h5 := condW_of h4 (w_not (w_lt w_lit (w_len_list (w_arg rfl))))
  rw [List.length_map] at h5
  refine Nat.le_of_not_lt fun q => ?_
  have q' : (n : Int) < ((ns.length : Nat) : Int) := by omega
  first
   | (rw [decide_eq_true q'] at h5; exact absurd h5 (by decide))
   | (simp at h5; omega)
 cases hwl with
 | cons w1 w2 =>
  cases w2
  cases w1 with
  | list ho hall => exact ⟨_, _, ns, rfl, rfl, ho, sP ns _ hall, hlen⟩
theorem aB6 (l : OpenLaw) (args : List WData) : l.row.toRowW.claim.post args (.bool true) args = true :=
 postW_of (r := l.row.toRowW) (X := (true == true))
  (show WShape.has [] (.bool true) .bool = true by first | rfl | decide | simp [WShape.has, WShape.arms, WShape.armsAll])
  (show (WTm.eq .res (.lit (.bool true))).value [] { args := args, res := some (.bool true), after := args } = some (.bool (true == true)) from w_eq_bool (w_res rfl) w_lit) rfl
theorem attach_call {l : OpenLaw} {n : Nat} {q : Program} {loose : List Str} {XP : (Str -> Option Value) -> Heap -> Prop} {YP : World -> Heap -> Prop} {d : DefRec}
  (hn : l.most = some n) (hdf : d.params.defaults = [])
  (call : ∀ (w : World) (s₀ s₁ : Shared) (mg mb : Str -> Option Value) (fa : Addr) (o : Obj) (pm cd doc : Value) (a : Addr) (vs : List Value) (ns : List Int),
   Ground q loose [] XP w s₀ mg mb s₁.heap -> YP w s₁.heap ->
   s₁.heap.get? fa = some o -> o.data = .func (docDef d.name d.params d.body d.scope pm cd doc) -> s₁.heap.CodeRec cd d.name -> mg d.name = some (.ref fa) ->
   s₁.heap.get? a = some { cls := .type "list", data := .seq vs.toArray } -> IntsAre vs ns -> ns.length <= n -> s₁.gens = #[] ->
   codeAny (model l.prog w) callerA (.call (.ref fa) ⟨[.ref a], []⟩) (fun r s' => r = .ok (.ret (.bool true)) /\ OldK s₁.heap s'.heap /\ s'.os = s₁.os /\ AllBare s'.gens) s₁) :
  WalkO q loose XP YP l.row.toRowW d [] (fun f vs => PySem.call f vs) := by
 intro w s₀ s₁ mg mb G Y fa o pm cd doc dV kV ho hd hcd hD hmg hg args vals as hpre hlay hrd hwl hlo
 obtain rfl : dV = .none := Dflts.none hD hdf
 obtain rfl : kV = .none := Dflts.noKw hD
 obtain ⟨a, vs, ns, rfl, rfl, hobj, hints, hlen⟩ := aB5 hn hpre hwl
 refine enter_call (codeAny_mono (call w s₀ s₁ mg mb fa o pm cd doc a vs ns G Y ho (fd_plain hd) hcd hmg hobj hints hlen hg) fun r s' hq => ?_)
 obtain ⟨rfl, h2, h3, h4⟩ := hq
 exact ⟨.inl ⟨.bool true, .bool true, [], rfl, fun _ => rfl, .bool true, aB6 l _, fun _ => ⟨List.Pairwise.nil, fun _ hm => (nomatch hm)⟩⟩, h2, h3, h4⟩
section
variable {prog : Program} {w : World} {A : Around} {E : Value -> Shared -> Prop} {s : Shared} {K : Frag}
def aOK (h : Heap) (L d : Addr) : List (Addr × Obj) := (List.range h.objs.size).filterMap fun a => if a = L \/ a = d then none else (h.get? a).map fun o => (a, o)
end
end Att
namespace L2
open PySem PySem.Spec PyProof.Rows
theorem u9 : ∀ {vs : List Value} {ns : List Int}, IntsAre vs ns -> bH (ns.map V.int) vs
 | _, _, .nil => .nil
 | _, _, .cons n t h => .cons ⟨t, rfl⟩ (u9 h)
end L2
namespace L2
open PySem PySem.Spec PyProof.Rows
abbrev KOf {K : Frag} {h : Heap} (_ : K.In h) : Frag := K
end L2
namespace L2
open PySem PySem.Spec PyProof.Rows
def fX (s : Stmt) : Arguments := match s with
 | .FunctionDef _ a _ _ _ _ _ _ _ _ => a
 | _ => { posonlyargs := [], args := [], vararg := none, kwonlyargs := [], kw_defaults := [], kwarg := none, defaults := [] }
def c7 (s : Stmt) : List Stmt := match s with
 | .FunctionDef _ _ b _ _ _ _ _ _ _ => b
 | _ => []
def aL (s : Stmt) : Scope := match s with
 | .FunctionDef _ _ _ _ _ _ sc _ _ _ => sc
 | _ => { kind := .function, names := [], isGenerator := false, isCoroutine := false }
abbrev CX0 : CXT := fun _ _ _ _ _ _ => False
abbrev E0 : XK := fun _ _ _ => False
structure Fun (K : Frag) (x qual : Str) (st : Stmt) (f : Addr) (fd : FuncData) : Prop where
 ex : ∃ (oc : Value) (od : Option Addr) (kV doc pm : Value) (an : Option Addr) (cdv ct : Value) (osl : Array (Option Value)),
  fd = PySem.W.fnOf x qual (fX st) (c7 st) (aL st) .none kV doc pm an cdv ct /\ K.lookup f = some ⟨oc, od, .func fd, osl⟩ /\ PySem.W.codeIn K cdv qual = true
 kp : PySem.W.keepIn K (.ref f) = true
section
variable {P : Program} {w : World} {K : Frag} {mg : Str -> Option Value} {base : Heap}
theorem Fun.binds {x qual : Str} {st : Stmt} {f : Addr} {fd : FuncData} {ps : List Str} (F : Fun K x qual st f fd)
  (h : ∀ (kV doc pm : Value) (an : Option Addr) (cdv ct : Value) (us : List Value), us.length = ps.length -> bindArgs (PySem.W.fnOf x qual (fX st) (c7 st) (aL st) .none kV doc pm an cdv ct) ⟨us, []⟩ = pure (ps.zip us)) : iE K fd ps [] := by
 obtain ⟨oc, od, kV, doc, pm, an, cdv, ct, osl, rfl, lk, hcd⟩ := F.ex
 exact .all (h kV doc pm an cdv ct)
theorem aB7 {x qual : Str} {st : Stmt} {f : Addr} {oc : Value} {od an : Option Addr} {osl : Array (Option Value)} {kV doc pm cdv ct : Value} (l : K.lookup f = some ⟨oc, od, .func (PySem.W.fnOf x qual (fX st) (c7 st) (aL st) .none kV doc pm an cdv ct), osl⟩)
 (c : PySem.W.codeIn K cdv qual = true) (k : PySem.W.keepIn K (.ref f) = true) : Fun K x qual st f (PySem.W.fnOf x qual (fX st) (c7 st) (aL st) .none kV doc pm an cdv ct) := ⟨⟨oc, od, kV, doc, pm, an, cdv, ct, osl, rfl, l, c⟩, k⟩
end
section
variable {X : Cx}
theorem pv (i : Nat) {x : Str} {pos : Pos} (hN : X.N[i]? = some x := by rfl) (hv : Vis X.env.scope x := by first | exact Or.inl rfl | exact Or.inr (Or.inl rfl) | exact Or.inr (Or.inr rfl)) (hd : (x == ("__debug__" : Str)) = false := by decide)
 (hcd : (x == ("__classdict__" : Str)) = false := by decide) : PE X (.Name x pos) (jN i) := aIO hN hv hd hcd
end
theorem wI {A B : Prop} (h : B) : if false = true then A else B := by
 rw [if_neg Bool.false_ne_true]
 exact h
theorem wJ {A B : Prop} (h : A) : if true = true then A else B := by
 rw [if_pos rfl]
 exact h
def aK (H H' : Hp) : Prop := ∀ b o, H b = some o -> H' b = some o
theorem aK.seq {K : Frag} {H H' : Hp} {a : Addr} {xs : List V} (e : aK H H') (h : SqL K H a xs) : SqL K H' a xs := by
 rcases h with (h | ⟨o, h⟩) | h
 · exact .inl (.inl (e _ _ h))
 · exact .inl (.inr ⟨o, e _ _ h⟩)
 · exact .inr h
end L2
namespace L2
open PySem PySem.Spec PyProof.Rows
theorem aAU {env : Env} : ∀ (names : List (Str × NameKind)) (acc : List (Str × Addr)), (∀ x ∈ names, x.2 = .free -> ∃ c, env.cells.lookup x.1 = some c) ->
  (∀ x c, acc.lookup x = some c -> env.cells.lookup x = some c) ->
  ∃ cl, (forIn names acc fun x r => (if (x.2 == NameKind.free) = true then (do let a <- cellOf env x.1; pure (ForInStep.yield ((x.1, a) :: r))) else pure (ForInStep.yield r)) : Sem (List (Str × Addr))) = pure cl /\
   (∀ x c, cl.lookup x = some c -> env.cells.lookup x = some c) /\ (∀ x ∈ names, x.2 = .free -> ∃ c, cl.lookup x.1 = some c) /\ ∀ x c, acc.lookup x = some c -> ∃ c', cl.lookup x = some c' := by
 intro names
 induction names with
 | nil => intro acc _ h; exact ⟨acc, rfl, h, fun x hx => absurd hx (by simp), fun x c e => ⟨c, e⟩⟩
 | cons x r ih =>
  intro acc hf h
  obtain ⟨n, k⟩ := x
  by_cases hk : k = .free
  ·subst hk
   obtain ⟨c, hc⟩ := hf (n, .free) List.mem_cons_self rfl
   have hc : env.cells.lookup n = some c := hc
   obtain ⟨cl, e1, e2, e3, e4⟩ := ih ((n, c) :: acc) (fun y hy => hf y (List.mem_cons_of_mem _ hy)) (fun y d e => by
    rw [List.lookup_cons] at e
    cases q : y == n with
    | true => rw [q] at e; cases e; have := eq_of_beq q; subst this; exact hc
    | false => rw [q] at e; exact h y d e)
   refine ⟨cl, ?_, e2, fun y hy hyf => ?_, fun y d e => ?_⟩
   ·rw [List.forIn_cons]
    simp only [beq_self_eq_true, if_true]
    unfold cellOf
    simp only [hc, pure_bind]
    exact e1
   ·rcases List.mem_cons.mp hy with z | z
    ·subst z
     exact e4 n c (by rw [List.lookup_cons]; simp)
    ·exact e3 y z hyf
   ·by_cases q : y = n
    ·subst q; exact e4 y c (by rw [List.lookup_cons]; simp)
    ·exact e4 y d (by rw [List.lookup_cons, beq_false_of_ne q]; exact e)
  ·obtain ⟨cl, e1, e2, e3, e4⟩ := ih acc (fun y hy => hf y (List.mem_cons_of_mem _ hy)) h
   refine ⟨cl, ?_, e2, fun y hy hyf => ?_, e4⟩
   ·rw [List.forIn_cons]
    have : (k == NameKind.free) = false := by simpa using hk
    simp only [this, Bool.false_eq_true, if_false, pure_bind]
    exact e1
   ·rcases List.mem_cons.mp hy with z | z
    ·subst z; exact absurd hyf hk
    ·exact e3 y z hyf
theorem sQ {env : Env} {scope : Scope} (hf : ∀ x ∈ scope.names, x.2 = .free -> ∃ c, env.cells.lookup x.1 = some c) :
  ∃ cl, closureFor scope env = pure cl /\ (∀ x c, cl.lookup x = some c -> env.cells.lookup x = some c) /\ ∀ x ∈ scope.names, x.2 = .free -> ∃ c, cl.lookup x.1 = some c := by
 obtain ⟨cl, e1, e2, e3, _⟩ := aAU scope.names [] hf (fun x c e => by simp at e)
 refine ⟨cl, ?_, e2, e3⟩
 unfold closureFor
 first
  | exact e1
  | (rw [<- e1]; rfl)
  | (simp only [bind_pure]; exact e1)
theorem fY {env : Env} : ∀ {names : List (Str × NameKind)} {x : Str} {k : NameKind},
  (names.map fun (n, k) => if (k == NameKind.free && env.scope.kind == .function && env.kindOf n == some .cell) then (n, NameKind.cell) else (n, k)).lookup x = some k ->
  k = .cell \/ k = .free -> (∀ y ∈ names, y.2 ≠ .cell) -> (x, NameKind.free) ∈ names
 | [], _, _, h, _, _ => by simp at h
 | (n, k0) :: r, x, k, h, hk, hc => by
  have ih := @fY env r x k
  rw [List.map_cons] at h
  dsimp only at h
  by_cases hx : x = n
  ·subst hx
   by_cases hcond : (k0 == NameKind.free && env.scope.kind == .function && env.kindOf x == some .cell) = true
   ·have : k0 = .free := by
     simp only [Bool.and_eq_true] at hcond
     exact eq_of_beq hcond.1.1
    subst this
    exact List.mem_cons_self
   ·rw [if_neg hcond, List.lookup_cons] at h
    simp only [beq_self_eq_true] at h
    cases h
    rcases hk with rfl | rfl
    ·exact absurd rfl (hc _ List.mem_cons_self)
    ·exact List.mem_cons_self
  ·have hb : (x == n) = false := beq_false_of_ne hx
   refine List.mem_cons_of_mem _ (ih ?_ hk fun y hy => hc y (List.mem_cons_of_mem _ hy))
   split at h
   ·rw [List.lookup_cons, hb] at h; exact h
   ·rw [List.lookup_cons, hb] at h; exact h
def fZ (X : Cx) (N : List Str) (scope : Scope) (cl : List (Str × Addr)) (C : Addr) (s : Shared) (H : Hp) (fp : List Addr) : Cx where
 prog := X.prog
 w := X.w
 K := X.K
 mg := X.mg
 base := X.base
 A := X.A
 N := N
 s₀ := s
 H₀ := H
 env := compEnvC scope cl C X.env
 outer := X.stack
 stack := X.stack
 ex := fp
 calm := X.calm
 fn := fun _ => false
 pn := []
 xe := fun _ _ => False
inductive Caps (X : Cx) (scope : Scope) : List Str -> List (Option Nat) -> Prop
 | nil : Caps X scope [] []
 | own {x : Str} {N : List Str} {js : List (Option Nat)} (t : Caps X scope N js) : Caps X scope (x :: N) (none :: js)
 | cap {x : Str} {j : Nat} {N : List Str} {js : List (Option Nat)} (h1 : X.N[j]? = some x) (h2 : X.env.kindOf x = some .cell \/ X.env.kindOf x = some .free)
  (h3 : (relabel scope X.env).names.lookup x = some .cell \/ (relabel scope X.env).names.lookup x = some .free) (t : Caps X scope N js) : Caps X scope (x :: N) (some j :: js)
theorem Caps.len {X : Cx} {scope : Scope} {N : List Str} {js : List (Option Nat)} (c : Caps X scope N js) : js.length = N.length := by
 induction c with
 | nil => rfl
 | own _ ih => simp [ih]
 | cap _ _ _ _ ih => simp [ih]
theorem Caps.get {X : Cx} {scope : Scope} {N : List Str} {js : List (Option Nat)} (c : Caps X scope N js) : ∀ {i j : Nat} {x : Str}, js[i]? = some (some j) -> N[i]? = some x ->
  X.N[j]? = some x /\ (X.env.kindOf x = some .cell \/ X.env.kindOf x = some .free) /\ ((relabel scope X.env).names.lookup x = some .cell \/ (relabel scope X.env).names.lookup x = some .free) := by
 induction c with
 | nil => intro i j x h; simp at h
 | own _ ih =>
  intro i j x h1 h2
  cases i with
  | zero => simp at h1
  | succ i => exact ih (by simpa using h1) (by simpa using h2)
 | cap a b d _ ih =>
  intro i j x h1 h2
  cases i with
  | zero =>
   simp at h1 h2
   subst h1 h2
   exact ⟨a, b, d⟩
  | succ i => exact ih (by simpa using h1) (by simpa using h2)
def j3 (js : List (Option Nat)) (σ : St) : St := js.map fun o => o.bind fun j => (σ[j]?).join
def g7 (σ σ' : St) : Prop := σ'.length = σ.length /\ ∀ (i : Nat) v, σ[i]? = some (some v) -> σ'[i]? = some (some v)
theorem g7.refl (σ : St) : g7 σ σ := ⟨rfl, fun _ _ h => h⟩
section
variable {X : Cx}
def PIf (X : Cx) (ifs : List Expr) (t : TT) : Prop :=
 ∀ (pins : List (Addr × Obj)) (s : Shared) (σ : St) (H : Hp) (Q : Bool -> Hp -> Prop), Inv X pins σ H s -> t σ H Q ->
  wpAny (model X.prog X.w) X.A (forIn ifs true fun c r => if r = true then do let ok <- isTrue c X.env (eval c X.env); pure (ForInStep.yield ok) else pure (ForInStep.yield r)) (TP X pins σ Q) X.xe s
def aNC : TT := fun _ H Q => Q true H
theorem fE : PIf X [] aNC := by
 intro pins s σ H Q I h
 show wpAny _ _ (pure true) _ _ s
 exact wpAny_pure ⟨H, I, h⟩
end
def t9 (X : Cx) (N : List Str) (scope : Scope) (js : List (Option Nat)) (tg elt : Expr) (ifs : List Expr) (σ : St) (x : V) (H : Hp) (R : Option V -> Hp -> Prop) : Prop :=
 ∀ (cl : List (Str × Addr)) (C : Addr) (s : Shared) (H0 : Hp) (fp : List Addr), ∃ (g : TG) (tt : TT) (te : TE), PG (fZ X N scope cl C s H0 fp) tg g /\ PIf (fZ X N scope cl C s H0 fp) ifs tt /\ PE (fZ X N scope cl C s H0 fp) elt te /\
  ∀ σ0, g7 (j3 js σ) σ0 -> g x σ0 H fun σ2 H2 => g7 (j3 js σ) σ2 /\ tt σ2 H2 fun b H3 => if b = true then te σ2 H3 fun y H4 => R (some y) H4 else R none H3
def compK (X : Cx) (N : List Str) (scope : Scope) (js : List (Option Nat)) (tg elt : Expr) (ifs : List Expr) (σ : St) (Q : VK) (J : It) (H1 : Hp) : Prop := ∃ (n : Nat) (W : Nat -> List V -> Hp -> Prop), n <= sizeLine /\ W 0 [] H1 /\
 ∀ i ys H, W i ys H -> ys.length <= i /\ ((J.stop i H /\ ∀ p, H p = none -> Q (.ref p) (upd H p (.lst ys))) \/ (J.go i H /\ i < n /\ ∃ R : Option V -> Hp -> Prop, (∀ y H2, R (some y) H2 -> W (i + 1) (ys ++ [y]) H2) /\ (∀ H2, R none H2 -> W (i + 1) ys H2) /\
  ∀ x H', J.yld i H x H' -> t9 X N scope js tg elt ifs σ x H' R))
def sR (X : Cx) (N : List Str) (scope : Scope) (js : List (Option Nat)) (tg elt : Expr) (ifs : List Expr) (wi : TI) : TE := fun σ H Q => wi σ H (compK X N scope js tg elt ifs σ Q)
end L2
namespace L2
open PySem PySem.Spec PyProof.Rows
section
variable {prog : Program} {w : World} {A : Around} {R : Result -> Shared -> Prop} {s : Shared}
theorem wK {elt target iter : Expr} {ifs : List Expr} {scope : Scope} {pos : Pos} {it acc : Value} {env : Env} (I : Nat -> Shared -> Prop)
  (turn : ∀ n s, I n s -> wpAny (model prog w) A (pyNext it) (fun r s1 => match r with
   | none => R (.ok .next) s1
   | some v => wpAny (model prog w) A (letOwnedTupleGo target it v) (fun _ s1' => wpAny (model prog w) A (assign target env v) (fun _ s2 =>
    wpAny (model prog w) A (forIn ifs true fun c r => if r = true then do let ok <- isTrue c env (eval c env); pure (ForInStep.yield ok) else pure (ForInStep.yield r)) (fun ok s3 =>
     if ok = true then wpAny (model prog w) A (eval elt env) (fun x s4 =>
      wpAny (model prog w) A (call (.builtin "list.append") [acc, x]) (fun _ s5 => ∃ m, m < n /\ I m s5) (fun _ _ => False) s4) (fun _ _ => False) s3
     else ∃ m, m < n /\ I m s3) (fun _ _ => False) s2) (fun _ _ => False) s1') (fun _ _ => False) s1) (fun _ _ => False) s)
  (n : Nat) (h : I n s) :
  codeAny (model prog w) A (.compLoop (.ListComp elt [⟨target, iter, ifs, 0⟩] scope pos) 0 it acc env) R s := by
 refine codeAny_loop rfl I (fun n s hI => ?_) n h
 show wpAny _ A ((compTurn (.ListComp elt [⟨target, iter, ifs, 0⟩] scope pos) 0 it acc env).onRaise (fun x => do noteFrame x env; theTreesLotGoes x)) _ _ s
 refine wpAny_noted ?_
 rw [compTurn_list]
 have nr : ∀ {α : Type} {t : Sem α} {Q : α -> Shared -> Prop} {E' : Value -> Shared -> Prop} {s : Shared}, wpAny (model prog w) A t Q (fun _ _ => False) s -> wpAny (model prog w) A t Q E' s := fun h => wpAny_mono h (fun _ _ q => q) fun _ _ f => f.elim
 refine wpAny_bind (wpAny_standAt (wpAny_bind (wpAny_mono (turn n s hI) (fun r s₁ h₁ => ?_) fun _ _ h' => h'.elim)))
 cases r with
 | none => exact wpAny_pure h₁
 | some v =>
  refine wpAny_bind (wpAny_mono h₁ (fun _ s1' h1' => ?_) fun _ _ f => f.elim)
  refine wpAny_bind (wpAny_mono h1' (fun _ s₂ h₂ => wpAny_bind (wpAny_mono h₂ (fun ok s₃ h₃ => ?_) fun _ _ h' => h'.elim)) fun _ _ h' => h'.elim)
  cases ok with
  | false => exact wpAny_pure ⟨rfl, h₃⟩
  | true =>
   exact wpAny_bind (wpAny_bind (wpAny_mono h₃ (fun x s₄ h₄ => wpAny_bind (wpAny_mono h₄ (fun _ s₅ h₅ => wpAny_pure (wpAny_pure ⟨rfl, h₅⟩)) fun _ _ h' => h'.elim)) fun _ _ h' => h'.elim))
end
theorem HOk.track {P : Program} {w : World} {H : Hp} {h : Heap} {a : Addr} {o : HO} (x : HOk P w H h) (hn : H a = none) (new : bZ P w (upd H a o) h a o) : HOk P w (upd H a o) h := fun b u e => by
 by_cases hb : b = a
 ·subst hb; rw [a7] at e; cases e; exact new
 ·rw [aQ hb] at e
  exact (x b u e).stay (fun c v _ q => q) (fun c q => by rw [aQ (bE q hn)]; exact q) (fun c xs q => by rw [aQ (bE q hn)]; exact q) fun c xs q => by rw [aQ (bE q hn)]; exact q
section
variable {X : Cx} {pins : List (Addr × Obj)} {σ : St}
structure CompEnd (X : Cx) (pins : List (Addr × Obj)) (σ : St) (D C : Addr) (ys : List V) (H' : Hp) (s' : Shared) : Prop where
 inv : Inv X pins σ (upd H' D (.lst ys)) s'
 ns : ∃ m, s'.heap.Ns C m
 fp : j0 X pins (upd H' D (.lst ys)) C
 nD : H' D = none
theorem CompEnd.gone {D C : Addr} {ys : List V} {H H' : Hp} {s' : Shared} {h'' : Heap} {σ' : St} (I : Inv X pins σ' H s') (fp : j0 X pins H C) (hs : Heap.SameBut C s'.heap h'') : Inv X pins σ' H { s' with heap := h'' } :=
 I.turned (it := C) (t' := s'.toks) (fun b o hb e => (hs.2 b hb).trans e) fp.1 fp.2.1 fp.2.2.2.1 fp.2.2.2.2.1 fp.2.2.2.2.2
theorem wL {prog : Program} {w : World} {A : Around} {E : Value -> Shared -> Prop} {s : Shared} {l : Addr} {items : Array Value} {nn : Nat} {x : Value} {Q : Value -> Shared -> Prop} (e : s.heap.get? l = some { cls := .type "list", dict := none, data := .seq items nn }) (hz : items.size <= sizeLine)
  (hQ : ∀ nn' h', h'.get? l = some { cls := .type "list", dict := none, data := .seq (items.push x) nn' } -> Heap.SameBut l s.heap h' -> Q .none { s with heap := h' }) :
  wpAny (model prog w) A (call (.builtin "list.append") [.ref l, x]) Q E s := by
 refine call_meets F.slot_list_append ⟨_, e, rfl⟩ F.entry_list_append (F.args_list_append_2 _ _) (PySem.list_append l items nn x (by omega)) ⟨e, ?_⟩
 exact hQ _ _ (Heap.get?_update_self _ e rfl) (Heap.SameBut.update ..)
theorem sS {N : List Str} {js : List (Option Nat)} {scope : Scope} {tg elt iter : Expr} {ifs : List Expr} {cl : List (Str × Addr)} {pos : Pos} {it : Addr} {fp : List Addr} {tn : Nat -> Heap -> Prop} {J : It} {s2 : Shared} {H2 : Hp} {E : Value -> Shared -> Prop}
  {RR : Value -> Addr -> Result -> Shared -> Prop} {Q : VK} (hc : X.calm = true) (caps : Caps X scope N js) (hkind : scope.kind = .function) (hcell : ∀ y ∈ scope.names, y.2 ≠ .cell)
  (hcl1 : ∀ x c, cl.lookup x = some c -> X.env.cells.lookup x = some c) (hcl2 : ∀ x ∈ scope.names, x.2 = .free -> ∃ c, cl.lookup x.1 = some c)
  (I : Inv X pins σ H2 s2) (T : Turn X.prog X.w X.K tg J fp it tn) (st2 : tn 0 s2.heap) (f2 : ∀ b ∈ fp, j0 X pins H2 b) (n : Nat) (W : Nat -> List V -> Hp -> Prop) (hn : n <= sizeLine) (w0 : W 0 [] H2)
  (turn : ∀ i ys H, W i ys H -> ys.length <= i /\ ((J.stop i H /\ ∀ p, H p = none -> Q (.ref p) (upd H p (.lst ys))) \/ (J.go i H /\ i < n /\ ∃ R : Option V -> Hp -> Prop, (∀ y H2, R (some y) H2 -> W (i + 1) (ys ++ [y]) H2) /\ (∀ H2, R none H2 -> W (i + 1) ys H2) /\
   ∀ x H', J.yld i H x H' -> t9 X N scope js tg elt ifs σ x H' R)))
  (hRR : ∀ D C ys H' s', CompEnd X pins σ D C ys H' s' -> Q (.ref D) (upd H' D (.lst ys)) -> RR (.ref D) C (.ok .next) s') :
  wpAny (model X.prog X.w) X.A (newList []) (fun acc s3 => wpAny (model X.prog X.w) X.A (newFunctionEnv scope X.env.globals cl [] X.env.qual none .none (some X.env)) (fun cenv s4 =>
   codeAny (model X.prog X.w) X.A (.compStart (.ListComp elt [⟨tg, iter, ifs, 0⟩] scope pos) 0 (.ref it) acc { cenv with scope := relabel scope X.env }) (RR acc cenv.locals) s4) E s3) E s2 := by
 refine wpAny_newObj_type (wpAny_newFunctionEnv hcell (by intro y hy; simp at hy) (fun h₁ hns₁ hsb₁ => ?_) hkind)
 dsimp only at hns₁ hsb₁ ⊢
 generalize hHh : s2.heap.push { cls := .type "list", dict := none, data := .seq ([] : List Value).toArray } = Hh at hns₁ hsb₁ ⊢
 have hC : Hh.objs.size = s2.heap.objs.size + 1 := by rw [<- hHh, Heap.size_push]
 have hDC : s2.heap.objs.size ≠ Hh.objs.size := by rw [hC]; exact Nat.ne_of_lt (Nat.lt_succ_self _)
 have hCle : s2.heap.objs.size <= Hh.objs.size := by rw [hC]; exact Nat.le_succ _
 have old : ∀ b o, s2.heap.get? b = some o -> h₁.get? b = some o := fun b o e => hsb₁.extBut b o (by rw [hC]; exact Nat.ne_of_lt (Nat.lt_succ_of_lt (Heap.lt_size e))) (Heap.get?_push_of_some _ (hHh ▸ Heap.get?_push_of_some _ e))
 have haccO : h₁.get? s2.heap.objs.size = some { cls := .type "list", dict := none, data := .seq ([] : List Value).toArray } := hsb₁.extBut _ _ hDC (Heap.get?_push_of_some _ (hHh ▸ Heap.get?_push_size _ rfl))
 have st1 : tn 0 h₁ := T.keep _ _ _ st2 fun b hb o e => old b o e
 have fplt : ∀ b ∈ fp, b < s2.heap.objs.size := fun b hb => by
  obtain ⟨o, e, _⟩ := T.obj _ _ st2 b hb
  exact Heap.lt_size e
 have fsIn : ∀ b ∈ frs X.stack, b < s2.heap.objs.size := fun b hb => by
  rcases List.mem_cons.mp (I.stkSub b hb) with z | z
  ·rw [z]; exact I.lt
  ·refine Nat.lt_of_not_le fun hle => I.nofs hle z
 have fpC : ∀ b ∈ fp, b ≠ Hh.objs.size := fun b hb z => Nat.lt_irrefl _ (Nat.lt_of_lt_of_le (fplt b hb) (z ▸ hCle))
 generalize hD : s2.heap.objs.size = D at *
 generalize hCc : Hh.objs.size = C at *
 let X' := fZ X N scope cl C s2 H2 fp
 have ok' : X'.Ok := by
  refine ⟨I.ok.mod, hkind, I.ok.glob, I.ok.blt, by show s2.heap.objs.size <= C; rw [hD]; exact hCle, fun x y c e1 e2 => I.ok.inj x y c (hcl1 x c e1) (hcl1 y c e2), fun x hx => ?_, fun x c z => absurd (show false = true from z) Bool.false_ne_true, I.ok.hd, I.ok.frames, .inl rfl, fun b hb => ?_,
   I.bs, Nat.le_trans I.ok.bsz I.sz, fun b o e hb => ?_, fun b hb z => ?_, I.stack, I.stkFree⟩
  ·have hm : (x, NameKind.free) ∈ scope.names := by
    rcases hx with z | z
    ·exact fY (env := X.env) z (.inl rfl) hcell
    ·exact fY (env := X.env) z (.inr rfl) hcell
   exact hcl2 _ hm rfl
  ·exact ⟨fpC b hb, fun x c e => (f2 b hb).2.2.2.2.1 x c (hcl1 x c e)⟩
  ·rcases (f2 b hb).2.2.2.1 with z | z
   ·exact I.ok.noex b o e z
   ·exact absurd (Heap.lt_size (I.ok.bs b o e).1) (Nat.not_lt.mpr z)
  ·rcases List.mem_cons.mp (I.stkSub b z) with q | q
   ·exact (f2 b hb).2.1 q
   ·exact (f2 b hb).2.2.1 q
 have hσl : (j3 js σ).length = N.length := by unfold j3; rw [List.length_map, caps.len]
 have freeC : H2 C = none := I.hok.fresh (by rw [hD]; exact hCle)
 have freeD : H2 D = none := I.hok.fresh (by rw [hD]; exact Nat.le_refl _)
 have DnotFs : D ∉ frs X.stack := fun z => Nat.lt_irrefl _ (fsIn D z)
 have DnotFp : D ∉ fp := fun z => Nat.lt_irrefl _ (fplt D z)
 have I0 : ∀ tk, Inv X' [] (j3 js σ) H2 { s2 with heap := h₁, toks := tk } := fun tk => by
  refine ⟨ok', rfl, I.bare, Un.kept old, ⟨_, hns₁, fun i x v e1 e2 e3 => ?_⟩, fun x c e => ?_, freeC, fun x c e => I.freeC x c (hcl1 x c e), fun p hp => absurd hp (by show ¬ p ∈ ([] ++ [] : List (Addr × Obj)); simp), I.hok.kept old, hσl⟩
  ·unfold j3 at e2
   rw [List.getElem?_map] at e2
   cases q : js[i]? with
   | none => rw [q] at e2; cases e2
   | some o =>
    rw [q] at e2
    cases o with
    | none => cases e2
    | some j =>
     have e2' : (σ[j]?).join = some v := Option.some.inj e2
     obtain ⟨c1, c2, c3⟩ := caps.get q e1
     have e4 : σ[j]? = some (some v) := by
      cases z : σ[j]? with
      | none => rw [z] at e2'; cases e2'
      | some u => rw [z] at e2'; have : u = some v := e2'; rw [this]
     obtain ⟨m, hm, hl⟩ := I.loc
     have vis : Vis X.env.scope x := by
      rcases c2 with z | z
      · exact .inr (.inl z)
      · exact .inr (.inr z)
     obtain ⟨u, r, l⟩ := hl j x v c1 e4 vis
     refine ⟨u, r, .inr ⟨c3, ?_⟩⟩
     have lc : ∃ c, X.env.cells.lookup x = some c /\ s2.heap.IsCell c (some u) := by
      rcases l with ⟨k, _⟩ | ⟨_, z⟩
      · rcases c2 with z | z <;> (rw [k] at z; cases z)
      · exact z
     obtain ⟨c, e5, o, ho, hd⟩ := lc
     have hm2 : (x, NameKind.free) ∈ scope.names := by
      rcases c3 with z | z
      · exact fY (env := X.env) z (.inl rfl) hcell
      · exact fY (env := X.env) z (.inr rfl) hcell
     obtain ⟨c', e6⟩ := hcl2 _ hm2 rfl
     have e7 := hcl1 _ _ e6
     rw [e5] at e7; cases e7
     exact ⟨c, e6, o, old c o ho, hd⟩
  ·obtain ⟨v, o, ho, hd⟩ := I.cell x c (hcl1 x c e)
   exact ⟨v, o, old c o ho, hd⟩
 have fpok : ∀ {H' : Hp} {pl : List (Addr × Obj)}, (∀ b ∈ fp, H' b = none) -> (∀ b ∈ fp, ∀ p ∈ pl, p.1 ≠ b) -> ∀ b ∈ fp, j0 X' pl H' b := fun {H' pl} hn hpl b hb => by
  refine ⟨hn b hb, fpC b hb, ok'.exfs b hb, .inl hb, fun x c e => (f2 b hb).2.2.2.2.1 x c (hcl1 x c e), fun p hp => hpl b hb p ?_⟩
  have hp' : p ∈ [] ++ pl := hp
  simpa using hp'
 let LI : Nat -> Shared -> Prop := fun k s' => ∃ i ys its nn σ' H', k = n + 1 - i /\ i <= n /\ W i ys H' /\ tn i s'.heap /\ (∀ b ∈ fp, H' b = none) /\ bH ys its /\ g7 (j3 js σ) σ' /\
  Inv X' [(D, { cls := .type "list", dict := none, data := .seq its.toArray nn })] σ' H' s'
 have loop : ∀ tk, codeAny (model X.prog X.w) X.A (.compLoop (.ListComp elt [⟨tg, iter, ifs, 0⟩] scope pos) 0 (.ref it) (.ref D) (compEnvC scope cl C X.env)) (RR (.ref D) C) { s2 with heap := h₁, toks := tk } := by
  intro tk
  refine wK LI ?_ (n + 1) ⟨0, [], [], 0, j3 js σ, H2, rfl, Nat.zero_le _, w0, st1, fun b hb => (f2 b hb).1, .nil, g7.refl _, ?_⟩
  ·rintro k s3 ⟨i, ys, its, nn, σ3, H3, rfl, hin, w3, st3, fr3, r3, ks, I3⟩
   obtain ⟨hyl, tr⟩ := turn i ys H3 w3
   have fpk := fpok (pl := [(D, { cls := .type "list", dict := none, data := .seq its.toArray nn })]) fr3 (fun b hb p hp z => by
    rw [List.mem_singleton.mp hp] at z
    exact DnotFp ((show D = b from z) ▸ hb))
   rcases tr with ⟨stop, q⟩ | ⟨go, hlt, RW, hR1, hR2, step⟩
   ·refine thn (T.done X' rfl rfl rfl hc i _ s3 σ3 H3 _ I3 fpk st3 stop) fun r s4 ⟨hr, I4⟩ => ?_
    subst hr
    show RR (.ref D) C (.ok .next) s4
    obtain ⟨pe, pn, p1, p2, p3⟩ := I4.pin (D, { cls := .type "list", dict := none, data := .seq its.toArray nn }) (by show _ ∈ [] ++ _; simp)
    refine hRR D C ys H3 s4 ?_ (q D pn)
    have hok4 : HOk X.prog X.w (upd H3 D (.lst ys)) s4.heap := HOk.track I4.hok pn ⟨Nat.le_trans hyl (Nat.le_trans hin hn), its, nn, r3, pe⟩
    have ltD : ∀ b u, H2 b = some u -> b ≠ D := fun b u e z => by rw [z, freeD] at e; cases e
    have un4 : Un (frs X.stack) fp H2 (upd H3 D (.lst ys)) s2.heap s4.heap := by
     have ub := I4.base
     refine ⟨ub.keep, ub.slot, fun b o e nn' hx => ?_, ub.there, fun b xs e => ?_, fun b o u e => ?_, fun b ps e => ?_⟩
     ·rw [aQ (fun z => by have := Heap.lt_size e; rw [hD, z] at this; exact Nat.lt_irrefl _ this)]
      exact ub.free b o e nn' hx
     ·rw [aQ (ltD b _ e)]; exact ub.tups b xs e
     ·rw [aQ (ltD b _ e)]; exact ub.frzs b o u e
     ·rw [aQ (ltD b _ e)]; exact ub.tbls b ps e
    refine ⟨I.call' I4.os un4 hok4 I4.bare fun b hb => ⟨(f2 b hb).2.2.2.1, (f2 b hb).2.1, (f2 b hb).2.2.2.2.1, (f2 b hb).2.2.2.2.2⟩, ?_, ?_, pn⟩
    ·obtain ⟨m, hm, _⟩ := I4.loc
     exact ⟨m, hm⟩
    ·refine I.fpOk (by rw [hD]; exact hCle) ?_
     rw [aQ (Ne.symm hDC)]
     exact I4.free
   ·refine thn (T.item X' rfl rfl rfl hc i _ s3 σ3 H3 _ I3 fpk st3 go) fun r s4 ⟨u, hr, h4⟩ => ?_
    subst hr
    show wpAny _ _ (letOwnedTupleGo tg (.ref it) u) _ _ s4
    refine thn h4 fun _ s5 ⟨x, H5, I5, r5, y5, st5, fr5⟩ => ?_
    obtain ⟨g, tt, te, hg, ht, he, hq⟩ := step x H5 y5 cl C s2 H2 fp
    have fpk5 := fpok (pl := [(D, { cls := .type "list", dict := none, data := .seq its.toArray nn })]) fr5 (fun b hb p hp z => by
     rw [List.mem_singleton.mp hp] at z
     exact DnotFp ((show D = b from z) ▸ hb))
    have I5' := I5.pinned fpk5 (T.obj _ _ st5)
    refine thn (hg _ s5 σ3 H5 x u _ I5' r5 (hq σ3 ks)) fun _ s6 ⟨σ6, H6, I6, ks6, q6⟩ => ?_
    refine thn (ht _ s6 σ6 H6 _ I6 q6) fun b s7 ⟨H7, I7, q7⟩ => ?_
    have stK : ∀ {s' : Shared} {H' : Hp} {σ' : St}, Inv X' ([(D, { cls := .type "list", dict := none, data := .seq its.toArray nn })] ++ oX fp s5.heap) σ' H' s' -> tn (i + 1) s'.heap /\ (∀ b ∈ fp, H' b = none) := fun {s' H' σ'} I' => by
     refine ⟨T.keep _ _ _ st5 fun b hb o e => (I'.pin (b, o) (List.mem_append_right _ (List.mem_append_right _ (lB hb e)))).1, fun b hb => ?_⟩
     obtain ⟨o, e, d⟩ := T.obj _ _ st5 b hb
     exact (I'.pin (b, o) (List.mem_append_right _ (List.mem_append_right _ (lB hb e)))).2.1
    cases b with
    | false =>
     rw [if_neg Bool.false_ne_true] at q7 ⊢
     obtain ⟨a1, a2⟩ := stK I7
     exact ⟨n + 1 - (i + 1), by omega, i + 1, ys, its, nn, σ6, H7, rfl, hlt, hR2 _ q7, a1, a2, r3, ks6, I7.unpinned⟩
    | true =>
     rw [if_pos rfl] at q7 ⊢
     refine thn (he _ s7 σ6 H7 _ I7 q7) fun yv s8 ⟨y, H8, I8, r8, q8⟩ => ?_
     obtain ⟨a1, a2⟩ := stK I8
     have I8u := I8.unpinned
     obtain ⟨pe, pn, p1, p2, p3⟩ := I8u.pin (D, { cls := .type "list", dict := none, data := .seq its.toArray nn }) (by show _ ∈ [] ++ _; simp)
     have hl8 : s8.heap.IsList D its.toArray := PySem.IsL.isList pe
     have isz : its.length <= sizeLine := by rw [<- r3.length]; exact Nat.le_trans hyl (Nat.le_trans hin hn)
     refine wL pe (by simpa using isz) fun nn' h9 e9 hs9 => ?_
     have I9 : Inv X' [] σ6 H8 { s8 with heap := h9, toks := s8.toks } := by
      refine Inv.turned (pins := []) (it := D) (t' := s8.toks) (I8u.pins_of (pins' := []) fun p hp => absurd hp (by simp)) (fun b o hb e => (hs9.2 b hb).trans e) pn hDC (.inr (by show s2.heap.objs.size <= D; rw [hD]; exact Nat.le_refl _)) (fun x c e z => ?_) fun p hp => absurd hp (by show ¬ p ∈ ([] ++ [] : List (Addr × Obj)); simp)
      obtain ⟨v, o, ho, hd⟩ := I.cell x c (hcl1 x c e)
      have := Heap.lt_size ho
      rw [hD, z] at this
      exact Nat.lt_irrefl _ this
     refine ⟨n + 1 - (i + 1), by omega, i + 1, ys ++ [y], its ++ [yv], nn', σ6, H8, rfl, hlt, hR1 _ _ q8, ?_, a2, bH.append r3 (.cons r8 .nil), ks6, ?_⟩
     ·exact T.keep _ _ _ a1 fun b hb o e => (hs9.2 b (fun z => DnotFp (z ▸ hb))).trans e
     ·refine I9.pins_of fun p hp => ?_
      obtain rfl := List.mem_singleton.mp hp
      exact ⟨by simpa using e9, pn, p1, p2, by simp⟩
  ·refine (I0 tk).pins_of fun p hp => ?_
   obtain rfl := List.mem_singleton.mp hp
   exact ⟨haccO, freeD, hDC, DnotFs, by simp⟩
 exact codeAny_compStart_list (loop _) (T.self X.A 0 _ _ _ st1 (loop _))
def d5 (names : List (Str × NameKind)) (outer : Str -> Option NameKind) : Bool :=
 names.all (fun y => y.2 != .cell) && names.all (fun y => y.2 != .local || names.lookup y.1 == some .local) && names.all (fun y => y.2 != .free || outer y.1 == some .cell || outer y.1 == some .free)
theorem d5.cell {names : List (Str × NameKind)} {outer : Str -> Option NameKind} (h : d5 names outer = true) : ∀ y ∈ names, y.2 ≠ .cell := fun y hy => by
 unfold d5 at h
 simp only [Bool.and_eq_true, List.all_eq_true] at h
 simpa using h.1.1 y hy
theorem d5.names {names : List (Str × NameKind)} {outer : Str -> Option NameKind} (h : d5 names outer = true) : ∀ y ∈ names, y.2 = .local -> names.lookup y.1 = some .local := fun y hy e => by
 unfold d5 at h
 simp only [Bool.and_eq_true, List.all_eq_true] at h
 have := h.1.2 y hy
 rw [e] at this
 simpa using this
theorem d5.free {names : List (Str × NameKind)} {outer : Str -> Option NameKind} (h : d5 names outer = true) : ∀ y ∈ names, y.2 = .free -> outer y.1 = some .cell \/ outer y.1 = some .free := fun y hy e => by
 unfold d5 at h
 simp only [Bool.and_eq_true, List.all_eq_true] at h
 have := h.2 y hy
 rw [e] at this
 simpa using this
theorem jF {N : List Str} {js : List (Option Nat)} {scope : Scope} {tg elt iter : Expr} {ifs : List Expr} {pos : Pos} {wi : TI} (hc : X.calm = true) (caps : Caps X scope N js) (hok : d5 scope.names X.env.kindOf = true)
  (hi : PI X tg iter wi) (hkind : scope.kind = .function := by rfl) (hs : ∀ x, foldedSetIterable iter X.env x = pure x := by intro _; rfl) :
  PE X (.ListComp elt [⟨tg, iter, ifs, 0⟩] scope pos) (sR X N scope js tg elt ifs wi) := by
 intro pins s σ H Q I h
 obtain ⟨cl, e1, e2, e3⟩ := sQ (env := X.env) (scope := scope) fun x hx hf => I.ok.has _ (d5.free hok x hx hf)
 rw [eval_ListComp]
 refine wpAny_comprehension_free (use := none) rfl hs e1 hkind (d5.names hok) (thn (hi pins s σ H _ I h) fun v s1 h1 => thn h1 fun itv s2 h2 => ?_)
 obtain ⟨it, fp, tn, J, H2, rfl, I2, T, st2, f2, n, W, hn, w0, turn⟩ := h2
 refine sS (RR := fun acc C => compPost (model X.prog X.w) X.A X.xe none (EP X pins σ Q) acc C) (Q := Q) hc caps hkind (d5.cell hok) e2 e3 I2 T st2 f2 n W hn w0 turn ?_
 intro D C ys H' s' ce q
 obtain ⟨m, hm⟩ := ce.ns
 exact ⟨m, hm, fun h' hs' => ⟨.ref D, _, CompEnd.gone (D := D) (ys := ys) (H' := H') ce.inv ce.fp hs', rfl, q⟩⟩
theorem sT {i : Nat} {x : Str} {N : List Str} {js : List (Option Nat)} {scope : Scope} {tg elt iter : Expr} {ifs : List Expr} {pos pos' spos : Pos} {wi : TI} (hN : X.N.Nodup) (hi' : X.N[i]? = some x) (hx : Loc X.env.scope x)
  (hsw : swapsWith (.ListComp elt [⟨tg, iter, ifs, 0⟩] scope pos) (some (.Name x pos')) spos.line X.env = pure true) (hc : X.calm = true) (caps : Caps X scope N js) (hok : d5 scope.names X.env.kindOf = true)
  (hi : PI X tg iter wi) (hkind : scope.kind = .function := by rfl) (hf : X.fn x = true \/ X.env.scope.names.lookup x = some .local := by first | exact .inl rfl | exact .inr rfl | assumption) (hs : ∀ x, foldedSetIterable iter X.env x = pure x := by intro _; rfl) :
  PS X (.Assign [.Name x pos'] (.ListComp elt [⟨tg, iter, ifs, 0⟩] scope pos) spos) (kU (sR X N scope js tg elt ifs wi) (jO i)) := by
 intro pins s σ H D I h
 obtain ⟨cl, e1, e2, e3⟩ := sQ (env := X.env) (scope := scope) fun x hx hf => I.ok.has _ (d5.free hok x hx hf)
 rw [exec_Assign_Name_used _ _ _ _ hsw]
 refine wpAny_bind (wpAny_standAt (wpAny_bind ?_))
 show wpAny _ X.A (do let _ <- comprehension (.ListComp elt [⟨tg, iter, ifs, 0⟩] scope pos) scope X.env _ (newList []) false (eval iter X.env) (some (assign (.Name x pos') X.env))) _ _ s
 refine wpAny_bind (wpAny_mono (wpAny_comprehension_free (use := some (assign (.Name x pos') X.env)) (Q := fun _ s' => SP X pins D .next s') rfl hs e1 hkind (d5.names hok)
  (thn (hi pins s σ H _ I h) fun v s1 h1 => thn h1 fun itv s2 h2 => ?_)) (fun _ s' hq => wpAny_pure (wpAny_pure hq)) fun _ _ e => e)
 obtain ⟨it, fp, tn, J, H2, rfl, I2, T, st2, f2, n, W, hn, w0, turn⟩ := h2
 refine sS (RR := fun acc C => compPost (model X.prog X.w) X.A X.xe (some (assign (.Name x pos') X.env)) (fun _ s' => SP X pins D .next s') acc C) (Q := fun v H' => D.nx (σ.set i (some v)) H') hc caps hkind (d5.cell hok) e2 e3 I2 T st2 f2 n W hn w0 turn ?_
 intro L C ys H' s' ce q
 show wpAny _ X.A (assign (.Name x pos') X.env (.ref L)) _ _ s'
 refine wpAny_assign_Name (u1 (v := .ref L) ce.inv hN hi' hx rfl (fun s'' I'' sb => ?_) hf)
 obtain ⟨a, hsa, ha⟩ := sb
 have hCa : C ≠ a := by
  rcases ha with z | z
  · rw [z]; exact ce.fp.2.1
  · exact fun z' => ce.fp.2.2.2.2.1 x a z z'.symm
 obtain ⟨m, hm⟩ := ce.ns
 exact ⟨m, hm.sameBut hsa hCa, fun h' hs' => ⟨_, _, CompEnd.gone (D := L) (ys := ys) (H' := H') I'' ce.fp hs', q⟩⟩
end
def aFQ (W : Nat -> List V -> Hp -> Prop) (i : Nat) (ys : List V) : Option V -> Hp -> Prop
 | some y, H => W (i + 1) (ys ++ [y]) H
 | none, H => W (i + 1) ys H
theorem aGO {X : Cx} {J : It} {N : List Str} {scope : Scope} {js : List (Option Nat)} {tg elt : Expr} {ifs : List Expr} {σ : St} {Q : VK} {n : Nat} {H1 : Hp} (W : Nat -> List V -> Hp -> Prop) (hz : n <= sizeLine) (w0 : W 0 [] H1)
  (hl : ∀ i ys H, i <= n -> W i ys H -> ys.length <= i) (hgo : ∀ i ys H, i < n -> W i ys H -> J.go i H) (hst : ∀ ys H, W n ys H -> J.stop n H)
  (step : ∀ i x ys H H', i < n -> W i ys H -> J.yld i H x H' -> t9 X N scope js tg elt ifs σ x H' (aFQ W i ys))
  (done : ∀ ys H, W n ys H -> ∀ p, H p = none -> Q (.ref p) (upd H p (.lst ys))) :
  compK X N scope js tg elt ifs σ Q J H1 := by
 refine ⟨n, fun i ys H => i <= n /\ W i ys H, hz, ⟨Nat.zero_le _, w0⟩, ?_⟩
 rintro i ys H ⟨hi, w⟩
 refine ⟨hl i ys H hi w, ?_⟩
 by_cases hlt : i < n
 ·exact .inr ⟨hgo i ys H hlt w, hlt, aFQ W i ys, fun y H2 q => ⟨hlt, q⟩, fun H2 q => ⟨hlt, q⟩, fun x H' y => step i x ys H H' hlt w y⟩
 ·have e : i = n := by omega
  subst e
  exact .inl ⟨hst ys H w, done ys H w⟩
end L2
namespace L2
open PySem PySem.Spec PyProof.Rows
mutual
inductive DatV (K : Frag) (H : Hp) : V -> PyData -> Prop
 | non : DatV K H .non .none
 | bl (b : Bool) : DatV K H (.bl b) (.bool b)
 | int (i : Int) : DatV K H (.int i) (.int i)
 | str (x : Str) : DatV K H (.str x) (.str x)
 | lst {a : Addr} {xs : List V} {ds : List PyData} : SqL K H a xs -> DatVs K H xs ds -> DatV K H (.ref a) (.list ds)
 | tup {a : Addr} {xs : List V} {ds : List PyData} : SqT K H a xs -> DatVs K H xs ds -> DatV K H (.ref a) (.tuple ds)
inductive DatVs (K : Frag) (H : Hp) : List V -> List PyData -> Prop
 | nil : DatVs K H [] []
 | cons {x : V} {d : PyData} {xs : List V} {ds : List PyData} : DatV K H x d -> DatVs K H xs ds -> DatVs K H (x :: xs) (d :: ds)
end
section
variable {X : Cx} {pins : List (Addr × Obj)} {σ : St} {H : Hp} {s : Shared}
mutual
theorem DatV.reads (I : Inv X pins σ H s) : ∀ {x : V} {d : PyData} {u : Value}, DatV X.K H x d -> a5 x u -> ∃ as, Reads s.heap u d as
 | _, _, _, .non, r => by cases r; exact ⟨_, .none⟩
 | _, _, _, .bl b, r => by cases r; exact ⟨_, .bool b⟩
 | _, _, _, .int i, r => by obtain ⟨t, rfl⟩ := r; exact ⟨_, .int i t⟩
 | _, _, _, .str x, r => by obtain ⟨t, rfl⟩ := r; exact ⟨_, .str x t⟩
 | _, _, _, .lst h ds, r => by
  cases r
  obtain ⟨its, rv, ⟨o, e, c, n, d⟩, hz⟩ : ∃ its : List Value, bH _ its /\ s.heap.IsList _ its.toArray /\ _ := by
   obtain ⟨its, rv, p, hz⟩ := I.list h
   exact ⟨its, rv, p.isList, hz⟩
  obtain ⟨as, q⟩ := DatVs.reads I ds rv
  exact ⟨_, .list e c d (by simpa using q)⟩
 | _, _, _, .tup h ds, r => by
  cases r
  obtain ⟨its, rv, p, hz⟩ := I.tuple h
  obtain ⟨o, e, c, n, d⟩ := p
  obtain ⟨as, q⟩ := DatVs.reads I ds rv
  exact ⟨_, .tuple e c d (by simpa using q)⟩
theorem DatVs.reads (I : Inv X pins σ H s) : ∀ {xs : List V} {ds : List PyData} {us : List Value}, DatVs X.K H xs ds -> bH xs us -> ∃ as, ReadsAll s.heap us ds as
 | _, _, _, .nil, r => by cases r; exact ⟨_, .nil⟩
 | _, _, _, .cons h t, r => by
  cases r with
  | cons r1 r2 =>
   obtain ⟨as, q⟩ := DatV.reads I h r1
   obtain ⟨bs, q2⟩ := DatVs.reads I t r2
   exact ⟨_, .cons q q2⟩
end
theorem aJE (hu : X.A.units + 64 < cLine) : OpR X (compareOp .Eq) (fun x y H Q => ∃ d e, DatV X.K H x d /\ DatV X.K H y e /\ SeqAt.shaped d = true /\ SeqAt.shaped e = true /\ Q (.bl (PyData.eqv d e)) H) := by
 intro pins s σ H x y u v Q I rx ry h
 obtain ⟨d, e, hx, hy, sd, se, q⟩ := h
 obtain ⟨as, r1⟩ := hx.reads I rx
 obtain ⟨bs, r2⟩ := hy.reads I ry
 exact eq_dataH r1 r2 sd se hu ⟨.bl _, H, I, rfl, q⟩
theorem aJF (hu : X.A.units + 64 < cLine) : OpR X (compareOp .NotEq) (fun x y H Q => ∃ d e, DatV X.K H x d /\ DatV X.K H y e /\ SeqAt.shaped d = true /\ SeqAt.shaped e = true /\ Q (.bl (!PyData.eqv d e)) H) := by
 intro pins s σ H x y u v Q I rx ry h
 obtain ⟨d, e, hx, hy, sd, se, q⟩ := h
 obtain ⟨as, r1⟩ := hx.reads I rx
 obtain ⟨bs, r2⟩ := hy.reads I ry
 exact ne_dataH r1 r2 sd se hu ⟨.bl _, H, I, rfl, q⟩
end
theorem SqL.same {K : Frag} {H H' : Hp} {a : Addr} {xs : List V} (e : aK H H') (h : SqL K H a xs) : SqL K H' a xs := aK.seq e h
theorem SqT.same {K : Frag} {H H' : Hp} {a : Addr} {xs : List V} (e : aK H H') (h : SqT K H a xs) : SqT K H' a xs := by
 rcases h with (h | ⟨o, h⟩) | h
 · exact .inl (.inl (e _ _ h))
 · exact .inl (.inr ⟨o, e _ _ h⟩)
 · exact .inr h
mutual
theorem DatV.same {K : Frag} {H H' : Hp} (e : aK H H') : ∀ {x : V} {d : PyData}, DatV K H x d -> DatV K H' x d
 | _, _, .non => .non
 | _, _, .bl b => .bl b
 | _, _, .int i => .int i
 | _, _, .str x => .str x
 | _, _, .lst h ds => .lst (h.same e) (DatVs.same e ds)
 | _, _, .tup h ds => .tup (h.same e) (DatVs.same e ds)
theorem DatVs.same {K : Frag} {H H' : Hp} (e : aK H H') : ∀ {xs : List V} {ds : List PyData}, DatVs K H xs ds -> DatVs K H' xs ds
 | _, _, .nil => .nil
 | _, _, .cons h t => .cons (DatV.same e h) (DatVs.same e t)
end
theorem aK.upd {H : Hp} {a : Addr} {o : HO} (h : H a = none) : aK H (upd H a o) := fun b u e => by rw [aQ (bE e h)]; exact e
theorem DatVs.length {K : Frag} {H : Hp} : ∀ {xs : List V} {ds : List PyData}, DatVs K H xs ds -> xs.length = ds.length
 | _, _, .nil => rfl
 | _, _, .cons _ t => by simp [DatVs.length t]
theorem DatVs.append {K : Frag} {H : Hp} : ∀ {xs ys : List V} {ds es : List PyData}, DatVs K H xs ds -> DatVs K H ys es -> DatVs K H (xs ++ ys) (ds ++ es)
 | _, _, _, _, .nil, h => h
 | _, _, _, _, .cons a t, h => .cons a (DatVs.append t h)
theorem DatVs.get {K : Frag} {H : Hp} : ∀ {xs : List V} {ds : List PyData} {i : Nat} {x : V}, DatVs K H xs ds -> xs[i]? = some x -> ∃ d, ds[i]? = some d /\ DatV K H x d
 | _, _, _, _, .nil, e => by simp at e
 | _, _, 0, _, .cons a t, e => by simp at e; subst e; exact ⟨_, by simp, a⟩
 | _, _, i + 1, x, .cons a t, e => by
  obtain ⟨d, h1, h2⟩ := DatVs.get (i := i) (x := x) t (by simpa using e)
  exact ⟨d, by simpa using h1, h2⟩
theorem DatVs.get' {K : Frag} {H : Hp} : ∀ {xs : List V} {ds : List PyData} {i : Nat} {d : PyData}, DatVs K H xs ds -> ds[i]? = some d -> ∃ x, xs[i]? = some x /\ DatV K H x d
 | _, _, _, _, .nil, e => by simp at e
 | _, _, 0, _, .cons a t, e => by simp at e; subst e; exact ⟨_, by simp, a⟩
 | _, _, i + 1, x, .cons a t, e => by
  obtain ⟨d, h1, h2⟩ := DatVs.get' (i := i) (d := x) t (by simpa using e)
  exact ⟨d, by simpa using h1, h2⟩
theorem DatVs.drop {K : Frag} {H : Hp} : ∀ {xs : List V} {ds : List PyData} (n : Nat), DatVs K H xs ds -> DatVs K H (xs.drop n) (ds.drop n)
 | _, _, 0, h => h
 | _, _, _ + 1, .nil => .nil
 | _, _, n + 1, .cons _ t => DatVs.drop n t
theorem DatVs.take {K : Frag} {H : Hp} : ∀ {xs : List V} {ds : List PyData} (n : Nat), DatVs K H xs ds -> DatVs K H (xs.take n) (ds.take n)
 | _, _, 0, _ => .nil
 | _, _, _ + 1, .nil => .nil
 | _, _, n + 1, .cons a t => .cons a (DatVs.take n t)
end L2
namespace SX
open PySem PySem.W
section
variable {prog : Program} {w : World} {A : Around} {E : Value -> Shared -> Prop} {h : Heap} {g : Array GenState} {d : Drawn} {t : Nat} {os : OsState} {K : Frag}
variable {nm q : Str} {C N : Addr} {bs bm bmB : List Value} {hdct : Bool} {sn : List Str} {sub : List Value} {ab : Bool} {col : Option Bool} {dd : Option Addr} {k0 k1 k2 k3 k5 : Option Value} {B newId initId : String}
structure BmOk (B : String) (bm : List Value) : Prop where
 hasB : bm.contains (.type B) = true
 hasBase : bm.contains (.type "BaseException") = true
 noAttr : bm.contains (.type "AttributeError") = false
 noName : bm.contains (.type "NameError") = false
theorem sU {M : Model} {env : Env} {s : Shared} {x : Sem Value} {Q : Flow -> Shared -> Prop} (T : BmOk B bm) (hh : A.handled = none)
  (hx : wpAny M A x (fun v s₁ => ∃ e od vs, v = .ref e /\ s₁.heap.get? C = some (excClassObj nm q C N bs bm hdct sn sub ab col dd k0 k1 k2 k3 k5 newId) /\
   s₁.heap.get? e = some { cls := .ref C, dict := od, data := .fields vs } /\ vs[1]? = some .none /\ E (.ref e) s₁) E s) :
  wpAny M A (raiseStmt env (some x) none) Q E s := by
 have hcB : (Value.ref C :: bm).contains (.type "BaseException") = true := by rw [List.contains_cons, T.hasBase, Bool.or_true]
 unfold raiseStmt
 refine wpAny_bind (wpAny_mono hx (fun v s₁ h₁ => ?_) fun _ _ x => x)
 obtain ⟨e, od, vs, rfl, hC, he, h1, hE⟩ := h₁
 obtain ⟨hp, g, d, tk, os⟩ := s₁
 repeat (first | with_reducible refine wpAny_loadPart_at he ?_ | with_reducible refine wpAny_loadPart_at hC ?_ | (with_reducible refine wpAny_isSubtype_exc hC ?_; rw [hcB]) | (with_reducible refine wpAny_field he rfl h1 ?_) | wp_step)
 exact wpAny_raiseNew_none hh hE
end
end SX
namespace SX
open PySem PySem.W PySem.Builtin PySem.Builtin.ObjectAttr
abbrev g8 : List Value := [.type "ValueError", .type "Exception", .type "BaseException", .type "object"]
structure ExcC (K : Frag) (W C : Addr) : Prop where
 lk : ∃ nm q N bs sn sub ab col dd k0 k1 k2 k3 k5, K.lookup C = some (excClassObj nm q C N bs (.ref W :: g8) true sn sub ab col dd k0 k1 k2 k3 k5 "ValueError.__new__")
 sa : findIn K (.ref C) "__setattr__" = some (some (.builtin "object.__setattr__"))
 ga : findIn K (.ref C) "__getattribute__" = some (some (.builtin "BaseException.__getattribute__"))
 gh : findIn K (.ref C) "__getattr__" = some none
 cl : findIn K (.ref C) "__class__" = some (some (.builtin "object.__class__"))
 clg : specialIn K (.builtin "object.__class__") "__get__" = some (some (.builtin "getset_descriptor.__get__"))
 clt : takesIn K (.builtin "object.__class__") = some true
 kp : keepIn K (.ref C) = true
theorem aD0 (W : Addr) : BmOk "ValueError" (.ref W :: g8) := ⟨by simp [g8], by simp [g8], by simp [g8], by simp [g8]⟩
theorem passes (self : Value) (C W : Addr) : refuseLoop self "__setattr__" (.ref C :: .ref W :: g8) = pure () := by
 rw [refuseLoop_ref, refuseLoop_ref]
 exact PySem.F.store_ValueError.passes self
theorem ExcC.cls {K : Frag} {W C : Addr} (c : ExcC K W C) : ∃ cd : ClassData, clsIn K C = some cd /\ cd.hasDict = true /\ cd.mro = .ref C :: .ref W :: g8 := by
 obtain ⟨nm, q, N, bs, sn, sub, ab, col, dd, k0, k1, k2, k3, k5, e⟩ := c.lk
 exact ⟨_, by unfold clsIn; rw [e], rfl, rfl⟩
theorem ExcC.mro {K : Frag} {W C : Addr} (c : ExcC K W C) (b : Value) : mroIn K C b = some ((Value.ref C :: .ref W :: g8).contains b) := by
 obtain ⟨cd, h1, _, h3⟩ := c.cls
 unfold mroIn
 rw [h1, Option.bind_some, h3]
 rfl
section
variable {prog : Program} {w : World} {A : Around} {E : Value -> Shared -> Prop} {s : Shared} {K : Frag} {W C x : Addr} {name : Str} {v : Value} {vs : Array Value}
theorem aB8 {od : Option Addr} {o : Option Obj} {tk : Tok} {r : Value} {Q : Fin -> Shared -> Prop} (X : K.In s.heap) (I : InstAt s.heap x ⟨.ref C, od, .fields vs, #[]⟩ C o) (hf : findObj K C o name = some (.value r)) (hq : Q (.done (.ret r)) s) :
  wpAny (model prog w) A (Builtin.«object.__getattribute__» ⟨[.ref x, .str name tk], []⟩) Q E s := by
 obtain ⟨hh', g, d, t, os⟩ := s
 have L0 := I.type (M := model prog w)
 have L1 := looks_find (M := model prog w) X I hf
 refine wpAny_bind (wpAny_pure (wpAny_bind (wpAny_pure ?_)))
 exact wpAny_bind (L0.at (wpAny_bind (L1.at (wpAny_pure hq))))
theorem aOL {od : Option Addr} {o : Option Obj} {tk : Tok} {r : Value} {fill expr : Bool} {Q : Value -> Shared -> Prop} (X : K.In s.heap) (c : ExcC K W C) (I : InstAt s.heap x ⟨.ref C, od, .fields vs, #[]⟩ C o) (hf : findObj K C o name = some (.value r)) (hh : handedIn r = true) (hq : Q r s) :
  wpAny (model prog w) A (getAttrBy (.ref x) (.str name tk) fill expr) Q E s := by
 obtain ⟨hp, g, d, t, os⟩ := s
 have L0 := I.type (M := model prog w)
 have L1 := looks_findIn (M := model prog w) X c.ga
 have L2 := looks_findIn (M := model prog w) X c.gh
 have sub : Looks (model prog w) hp (isInstance (.ref x) (.type "BaseException")) true := L0.andThen (looks_mroIn X (by rw [c.mro]; simp [g8]))
 unfold getAttrBy
 refine wpAny_holding (wpAny_bind (L0.at (wpAny_bind (L1.at ?_))))
 show wpAny _ _ (getAttrByItsOwn _ _ _ _ _ _) _ _ _
 unfold getAttrByItsOwn
 refine wpAny_bind ?_
 show wpAny _ _ (typeLookup (.ref C) "__getattr__") _ _ _
 refine L2.at (wpAny_bind (wpAny_attempt (wpAny_holding ?_)))
 have hx0 : (expr && onTheHeap (Value.builtin "BaseException.__getattribute__")) = false := by cases expr <;> rfl
 unfold callGetattribute
 rw [hx0, if_neg Bool.false_ne_true]
 unfold boundAndCalled
 rw [PySem.F.excAttr_ValueError.ga.bind]
 refine wpAny_bind (wpAny_pure ?_)
 have hk : builtinKind "BaseException.__getattribute__" = some .slot := by decide +kernel
 have hsplit : splitId "BaseException.__getattribute__" = some ("BaseException", "__getattribute__") := by decide +kernel
 refine wpAny_call (codeAny_call_builtin PySem.F.excAttr_ValueError.ga.plain PySem.F.entry_bexc_ga (@check_slot (model prog w) _ _ _ "BaseException.__getattribute__" "BaseException" "__getattribute__" (.ref x) [.str name tk] [] _ hk hsplit sub (PySem.F.args_bexc_ga (.ref x) (.str name tk)) ?_))
 refine aB8 X I hf ?_
 show wpAny _ _ (handedOut r) _ _ _
 rw [handedOut_of hh]
 exact wpAny_pure hq
theorem aB9 {od : Option Addr} {o : Option Obj} {Q : Option Value -> Shared -> Prop} (X : K.In s.heap) (c : ExcC K W C) (I : InstAt s.heap x ⟨.ref C, od, .fields vs, #[]⟩ C o) (h : Q (some (.ref C)) { s with toks := s.toks + 1 }) :
  wpAny (model prog w) A (getAttr? (.ref x) "__class__") Q E s := by
 obtain ⟨hp, g, d, t, os⟩ := s
 obtain ⟨cd, hcd, hdct, hmro⟩ := c.cls
 have L0 := I.type (M := model prog w)
 have L1 := looks_findIn (M := model prog w) X c.ga
 have L2 := looks_findIn (M := model prog w) X c.gh
 have sub : Looks (model prog w) hp (isInstance (.ref x) (.type "BaseException")) true := L0.andThen (looks_mroIn X (by rw [c.mro]; simp [g8]))
 have hf : findObj K C o "__class__" = some (.bind (.builtin "getset_descriptor.__get__") (.builtin "object.__class__")) := by
  unfold findObj
  rw [hcd, Option.bind_some, c.cl, Option.bind_some]
  simp only [c.clg, c.clt, Option.bind_some]
 have L3 := looks_find (M := model prog w) X I hf
 unfold getAttr?
 refine wpAny_bind (wpAny_mkText ?_)
 unfold getAttrBy?
 refine wpAny_bind (wpAny_attempt ?_)
 unfold getAttrBy
 refine wpAny_holding (wpAny_bind (L0.at (wpAny_bind (L1.at ?_))))
 show wpAny _ _ (getAttrByItsOwn _ _ _ _ _ _) _ _ _
 unfold getAttrByItsOwn
 refine wpAny_bind ?_
 show wpAny _ _ (typeLookup (.ref C) "__getattr__") _ _ _
 refine L2.at (wpAny_bind (wpAny_attempt (wpAny_holding ?_)))
 unfold callGetattribute
 rw [show (false && onTheHeap (Value.builtin "BaseException.__getattribute__")) = false from rfl, if_neg Bool.false_ne_true]
 unfold boundAndCalled
 rw [PySem.F.excAttr_ValueError.ga.bind]
 refine wpAny_bind (wpAny_pure ?_)
 have hk : builtinKind "BaseException.__getattribute__" = some .slot := by decide +kernel
 have hsplit : splitId "BaseException.__getattribute__" = some ("BaseException", "__getattribute__") := by decide +kernel
 refine wpAny_call (codeAny_call_builtin PySem.F.excAttr_ValueError.ga.plain PySem.F.entry_bexc_ga (@check_slot (model prog w) _ _ _ "BaseException.__getattribute__" "BaseException" "__getattribute__" (.ref x) [.str "__class__" t] [] _ hk hsplit sub (PySem.F.args_bexc_ga (.ref x) (.str "__class__" t)) ?_))
 refine wpAny_bind (wpAny_pure (wpAny_bind (wpAny_pure ?_)))
 refine wpAny_bind (L0.at (wpAny_bind (L3.at ?_)))
 show wpAny _ _ (holding [.builtin "object.__class__"] (call (.builtin "getset_descriptor.__get__") [.builtin "object.__class__", .ref x, .ref C]) >>= ret) _ _ _
 refine wpAny_bind (wpAny_holding (wpAny_call (class_get (s := ⟨hp, g, d, t + 1, os⟩) X I (by rw [c.mro]; simp [g8]) ?_)))
 refine wpAny_pure ?_
 show wpAny _ _ (handedOut (.ref C)) _ _ _
 exact wpAny_pure (wpAny_pure h)
theorem wM {od : Option Addr} {o : Option Obj} (c : ExcC K W C) : KitX K (.ref x) (.ref C) (fun h => InstAt h x ⟨.ref C, od, .fields vs, #[]⟩ C o) where
 ty := fun _ _ _ I => I.type
 it := fun _ _ X _ => by
  obtain ⟨nm, q, N, bs, sn, sub, ab, col, dd, k0, k1, k2, k3, k5, e⟩ := c.lk
  intro A' Q' E' s' k q
  unfold isType loadHead
  exact wpAny_bind (wpAny_loadPart (k _ _ (X _ _ e)) (wpAny_pure q))
 ne := fun h tp dd its n sl X htp => by
  obtain ⟨nm, q, N, bs, sn, sub, ab, col, dd, k0, k1, k2, k3, k5, e⟩ := c.lk
  refine Bool.eq_false_iff.mpr fun q => ?_
  have e' : C = tp := Value.ref.inj (beq_iff_eq.mp q)
  subst e'
  have z := (X _ _ e).symm.trans htp
  have z' : Value.type "type" = Value.type "tuple" := congrArg Obj.cls (Option.some.inj z)
  exact absurd (Value.type.inj z') (by decide)
 ca := fun X I k => aB9 X c I k
theorem sV {od : Option Addr} {o : Option Obj} {cv : Value} {b : Bool} {Q : Value -> Shared -> Prop} (X : K.In s.heap) (c : ExcC K W C) (I : InstAt s.heap x ⟨.ref C, od, .fields vs, #[]⟩ C o) (e : kitOne K (.ref C) cv = some b) (h : ∀ tk, Q (.bool b) { s with toks := tk }) :
 wpAny (model prog w) A (call (.builtin "isinstance") [.ref x, cv]) Q E s := kia_one (wM c) X I e (fun z => nomatch z) h
end
end SX
namespace SX
open PySem PySem.W
def rM (h : Heap) (vs : Array Value) (e : Addr) (T : Option Addr) : Prop :=
 match T with
 | none => vs[1]? = some .none
 | some t => vs[1]? = some (.ref t) /\ t ≠ e /\ ∃ oT ts x, h.get? t = some oT /\ oT.data = .fields ts /\ ts[3]? = some x
section
variable {M : Model} {A : Around} {E : Value -> Shared -> Prop} {s : Shared}
structure Noted (FL : List Addr) (e : Addr) (T : Option Addr) (C : Addr) (od : Option Addr) (h h' : Heap) (T' : Option Addr) : Prop where
 keep : ∀ b o, b ∉ FL -> b ≠ e -> (∀ t, T = some t -> b ≠ t) -> h.get? b = some o -> h'.get? b = some o
 slot : ∀ b o, b ∈ FL -> h.get? b = some o -> ∃ sl, h'.get? b = some { o with slots := sl }
 exc : ∃ vs, h'.get? e = some ⟨.ref C, od, .fields vs, #[]⟩ /\ rM h' vs e T'
 new : (∃ t, T' = some t /\ h.objs.size <= t) \/ (T' = T /\ T ≠ none)
 there : ∀ t o, T = some t -> h.get? t = some o -> ∃ o', h'.get? t = some o'
theorem aD1 {base : Heap} {env : Env} {outer : List Env} {L e C : Addr} {od : Option Addr} {vs : Array Value} {T : Option Addr} {Q : Unit -> Shared -> Prop}
  (hfr : A.frames = some (env :: outer)) (hl : s.heap.FunFrames base (env :: outer)) (hf : env.frame = some L) (he : s.heap.get? e = some ⟨.ref C, od, .fields vs, #[]⟩) (ht : rM s.heap vs e T)
  (h : ∀ h' T', T' ≠ none -> Noted ((env :: outer).filterMap (·.frame)) e T C od s.heap h' T' -> Q () { s with heap := h' }) :
  wpAny M A (noteFrame (.ref e) env) Q E s := by
 have frF : ∀ b ∈ (env :: outer).filterMap (·.frame), ∃ o, s.heap.get? b = some o /\ ∀ vs, o.data ≠ .fields vs := fun b hb => (hl.mem hb).2
 have hene : e ∉ (env :: outer).filterMap (·.frame) := fun hm => by
  obtain ⟨o, ho, hnf⟩ := frF e hm
  rw [he] at ho; injection ho with ho; subst ho; exact hnf vs rfl
 have h1s : 1 < vs.size := by
  unfold rM at ht
  cases T with
  | none => exact (Array.getElem?_eq_some_iff.mp ht).1
  | some t => exact (Array.getElem?_eq_some_iff.mp ht.1).1
 have make : ∀ (hp : Heap) (head : Value) (hadNext : Bool), hp.FunFrames base (env :: outer) -> hp.objs.size = s.heap.objs.size -> hp.get? e = some ⟨.ref C, od, .fields vs, #[]⟩ ->
   (∀ b o, (∀ t, T = some t -> b ≠ t) -> s.heap.get? b = some o -> hp.get? b = some o) -> (∀ t o, T = some t -> s.heap.get? t = some o -> ∃ o', hp.get? t = some o' /\ t ∉ (env :: outer).filterMap (·.frame) /\ t ≠ e) ->
   wpAny M A (do let a <- frameOf env; let pl <- entryPlaceOf L hadNext; let b <- EntryCells.newEntry head a .none (rawInt L) .none pl; setField (.ref e) 1 b) Q E { s with heap := hp } := by
  intro hp head hadNext hlp hsz hep kp tp
  refine wpAny_bind (wpAny_frameOf_fun (s := { s with heap := hp }) hfr hlp hf fun h₁ hs₁ => ?_)
  refine wpAny_bind (wpAny_entryPlaceOf fun pl hpl => ?_)
  unfold EntryCells.newEntry newFields
  refine wpAny_bind (wpAny_newObj_type ?_ (hpl.sizeOk5 _ _ _ _ _))
  have he₁ : h₁.get? e = some ⟨.ref C, od, .fields vs, #[]⟩ := (hs₁.2.1 e hene).trans hep
  have he₂ := Heap.get?_push_of_some (h := h₁) { cls := .type "traceback", dict := none, data := .fields ([head, .ref L, .none, rawInt L, .none] ++ (if pl.isEmpty then List.replicate 6 Value.none else pl)).toArray } he₁
  refine wpAny_setField he₂ rfl h1s ?_
  have hTe : h₁.objs.size ≠ e := Nat.ne_of_gt (Heap.lt_size he₁)
  have he₃ := Heap.get?_update_self (Obj.mapFields (·.setIfInBounds 1 (Value.ref h₁.objs.size))) he₂ rfl
  have hT₃ := (Heap.get?_update_other (h₁.push { cls := .type "traceback", dict := none, data := .fields ([head, .ref L, .none, rawInt L, .none] ++ (if pl.isEmpty then List.replicate 6 Value.none else pl)).toArray })
   (Obj.mapFields (·.setIfInBounds 1 (Value.ref h₁.objs.size))) (Ne.symm hTe)).trans (Heap.get?_push_size h₁ rfl)
  have keep : ∀ b o, b ≠ e -> h₁.get? b = some o ->
    ((h₁.push { cls := .type "traceback", dict := none, data := .fields ([head, .ref L, .none, rawInt L, .none] ++ (if pl.isEmpty then List.replicate 6 Value.none else pl)).toArray }).update e (Obj.mapFields (·.setIfInBounds 1 (Value.ref h₁.objs.size)))).get? b = some o :=
   fun b o hbe hb => by
    rw [Heap.get?_update_other _ _ (Ne.symm hbe)]
    exact Heap.get?_push_of_some _ hb
  refine h _ (some h₁.objs.size) (by simp) ⟨fun b o hb hbe hbt q => ?_, fun b o hb q => ?_, ⟨vs.setIfInBounds 1 (.ref h₁.objs.size), ?_, ?_⟩, .inl ⟨_, rfl, by rw [hs₁.1, hsz]; exact Nat.le_refl _⟩, fun t o e1 e2 => ?_⟩
  ·exact keep b o hbe ((hs₁.2.1 b hb).trans (kp b o hbt q))
  ·have hbt : ∀ t, T = some t -> b ≠ t := fun t e1 z => by
    obtain ⟨o', q', z2, _⟩ := tp t o e1 (z ▸ q)
    exact z2 (z ▸ hb)
   obtain ⟨sl, q'⟩ := hs₁.2.2 b o (kp b o hbt q)
   exact ⟨sl, keep b _ (fun z => hene (z ▸ hb)) q'⟩
  ·exact he₃
  ·refine ⟨by simp [h1s], hTe, _, _, rawInt L, hT₃, rfl, by first | (simp; done) | (rcases hpl with rfl | ⟨_, _, _, _, _, _, _, rfl⟩ <;> simp)⟩
  ·obtain ⟨o', q', z2, z3⟩ := tp t o e1 e2
   exact ⟨o', keep t o' z3 ((hs₁.2.1 t z2).trans q')⟩
 unfold noteFrame
 simp only [hf]
 cases T with
 | none =>
  refine wpAny_bind (wpAny_field he rfl ht ?_)
  rw [if_neg (by decide)]
  exact make s.heap .none _ hl rfl he (fun b o _ q => q) (fun t o e1 => nomatch e1)
 | some t =>
  obtain ⟨ht1, hte, oT, ts, x, hT, hdT, h3⟩ := ht
  have tFL : t ∉ (env :: outer).filterMap (·.frame) := fun hm => by
   obtain ⟨o, ho, hnf⟩ := frF t hm
   rw [hT] at ho; injection ho with ho; subst ho; exact hnf ts hdT
  refine wpAny_bind (wpAny_field he rfl ht1 ?_)
  rw [if_pos (show (Value.ref t != Value.none) = true from by simp)]
  refine wpAny_bind (wpAny_field hT hdT h3 ?_)
  by_cases hx : (x == rawInt L) = true
  ·rw [if_pos hx]
   refine wpAny_pure (h s.heap (some t) (by simp) ⟨fun b o _ _ _ q => q, fun b o _ q => ⟨o.slots, q⟩, ⟨vs, he, ht1, hte, oT, ts, x, hT, hdT, h3⟩, .inr ⟨rfl, by simp⟩, fun t' o e1 q => ⟨o, q⟩⟩)
  ·rw [if_neg hx]
   refine wpAny_bind (wpAny_setField hT hdT (Array.getElem?_eq_some_iff.mp h3).1 ?_)
   have other : ∀ b, b ≠ t -> (s.heap.update t (Obj.mapFields (·.setIfInBounds 3 Value.none))).get? b = s.heap.get? b := fun b hb => Heap.get?_update_other _ _ (Ne.symm hb)
   have hT' := Heap.get?_update_self (Obj.mapFields (·.setIfInBounds 3 Value.none)) hT (Obj.isFreed_of_fields (Obj.data_mapFields hdT _))
   refine make (s.heap.update t (Obj.mapFields (·.setIfInBounds 3 Value.none))) _ _ (hl.of_keeps fun b o hb hnf => ⟨o, (other b fun q => ?_).trans hb, rfl⟩) (Heap.SameBut.update ..).1 ((other e (Ne.symm hte)).trans he) (fun b o hb q => (other b (hb t rfl)).trans q) (fun t' o e1 q => ?_)
   ·rw [q, hT] at hb; injection hb with hb; subst hb; exact hnf ts hdT
   ·cases e1
    exact ⟨_, hT', tFL, hte⟩
theorem aAV {e C t : Addr} {od : Option Addr} {vs : Array Value} {fr : Option Addr} {Q : Unit -> Shared -> Prop} (he : s.heap.get? e = some ⟨.ref C, od, .fields vs, #[]⟩) (ht : rM s.heap vs e (some t))
  (h : ∀ h', Heap.SameBut t s.heap h' -> rM h' vs e (some t) -> Q () { s with heap := h' }) : wpAny M A (setFlight (.ref e) fr) Q E s := by
 obtain ⟨ht1, hte, oT, ts, x, hT, hdT, h3⟩ := ht
 unfold setFlight
 refine wpAny_bind (wpAny_field he rfl ht1 ?_)
 rw [if_pos (show (Value.ref t != Value.none) = true from by simp)]
 have hsz := (Array.getElem?_eq_some_iff.mp h3).1
 refine wpAny_setField hT hdT hsz (h _ (Heap.SameBut.update ..) ⟨ht1, hte, _, _, _, Heap.get?_update_self _ hT (Obj.isFreed_of_fields (Obj.data_mapFields hdT _)), Obj.data_mapFields hdT _, Array.getElem?_setIfInBounds_self_of_lt hsz⟩)
end
end SX
namespace L2
open PySem PySem.Spec PyProof.Rows
def ExN (e C : Addr) (od : Option Addr) : HO := .ext fun h => ∃ vs, h.get? e = some ⟨.ref C, od, .fields vs, #[]⟩ /\ vs[1]? = some .none
def ExO (e C : Addr) (od : Option Addr) : HO := .ext fun h => ∃ vs, h.get? e = some ⟨.ref C, od, .fields vs, #[]⟩
section
variable {P : Program} {w : World} {H : Hp} {h : Heap} {e C : Addr} {od : Option Addr}
theorem aCA {vs : Array Value} (a : h.get? e = some ⟨.ref C, od, .fields vs, #[]⟩) : bZ P w H h e (ExO e C od) :=
 ⟨⟨vs, a⟩, ⟨_, a⟩, fun h1 h2 ⟨vs, a⟩ k => ⟨vs, k _ a⟩⟩
theorem sW (ok : HOk P w H h) (q : H e = some (ExO e C od)) : ∃ vs, h.get? e = some ⟨.ref C, od, .fields vs, #[]⟩ := (ok e _ q).1
end
structure FlyAt (X : Cx) (H : Hp) (h : Heap) (e C : Addr) (od : Option Addr) (traced : Bool) : Prop where
 tr : H e = some (ExO e C od)
 tb : ∃ vs T, h.get? e = some ⟨.ref C, od, .fields vs, #[]⟩ /\ SX.rM h vs e T /\ (∀ t, T = some t -> H t = none /\ X.s₀.heap.objs.size <= t /\ ∀ p ∈ X.pn, p.1 ≠ t) /\ (traced = true -> T ≠ none)
def Fly (X : Cx) (E : XK) (ev : Value) (s' : Shared) : Prop := ∃ e C od σ H', ev = .ref e /\ Inv X [] σ H' s' /\ FlyAt X H' s'.heap e C od false /\ E (.ref C) (some e) H'
abbrev Cx.fly (X : Cx) (E : XK) : Cx := X.wish (Fly X E)
def mC (X : Cx) : Prop := X.stack = X.env :: X.outer /\ X.env.frame = some X.env.locals
section
variable {X : Cx} {σ : St} {H : Hp} {s : Shared} {e C : Addr} {od : Option Addr} {b : Bool}
theorem wN (I : Inv X [] σ H s) {t : Addr} {oT : Obj} {ts : Array Value} (hT : s.heap.get? t = some oT) (hd : oT.data = .fields ts) : t ≠ X.env.locals /\ (∀ x c, X.env.cells.lookup x = some c -> c ≠ t) := by
 refine ⟨fun z => ?_, fun x c q z => ?_⟩
 ·obtain ⟨m, ⟨o, es, ep, ho, hd', _⟩, _⟩ := I.loc
  rw [<- z, hT] at ho; cases ho; rw [hd] at hd'; cases hd'
 ·obtain ⟨v, o, ho, hd'⟩ := I.cell x c q
  rw [z, hT] at ho; cases ho; rw [hd] at hd'; cases hd'
theorem nU {Q : Unit -> Shared -> Prop} {E' : Value -> Shared -> Prop} (hO : mC X) (I : Inv X [] σ H s) (f : FlyAt X H s.heap e C od b) (h : ∀ s', Inv X [] σ H s' -> FlyAt X H s'.heap e C od true -> Q () s') :
  wpAny (model X.prog X.w) X.A (noteFrame (.ref e) X.env) Q E' s := by
 obtain ⟨hst, hfm⟩ := hO
 obtain ⟨vs, T, he, ht, hT, _⟩ := f.tb
 have hfr : X.A.frames = some (X.env :: X.outer) := by rw [<- hst]; exact I.ok.frames
 have hl : s.heap.FunFrames X.base (X.env :: X.outer) := by have := I.stack; rw [hst] at this; exact this
 have hFL : (X.env :: X.outer).filterMap (·.frame) = X.env.locals :: X.fs := by rw [List.filterMap_cons, hfm]; rfl
 refine SX.aD1 (T := T) hfr hl hfm he ht fun h' T' hT' N => ?_
 rw [hFL] at N
 have trk : ∀ c u, H c = some u -> c ∉ X.env.locals :: X.fs := fun c u q z => by
  have := I.stkFree c (by unfold frs; rw [hst, hFL]; exact z)
  rw [q] at this; cases this
 have nT : ∀ c u, H c = some u -> ∀ t, T = some t -> c ≠ t := fun c u q t e1 z => by
  have := (hT t e1).1
  rw [<- z, q] at this; cases this
 have hok' : HOk X.prog X.w H h' := fun c u q => by
  by_cases hc : c = e
  ·subst hc
   rw [f.tr] at q; cases q
   obtain ⟨vs', q', _⟩ := N.exc
   exact aCA q'
  ·refine (I.hok c u q).stay (fun c' v hc' q' => N.keep c' v ?_ ?_ ?_ q') (fun _ q => q) (fun _ _ q => q) fun _ _ q => q
   ·rcases hc' with z | z
    ·rw [z]; exact trk c u q
    ·exact trk c' _ z
   ·rcases hc' with z | z
    ·rw [z]; exact hc
    ·intro zz; rw [zz, f.tr] at z; cases z
   ·rcases hc' with z | z
    ·rw [z]; exact nT c u q
    ·exact nT c' _ z
 have I' : Inv X [] σ H { s with heap := h', gens := s.gens, drawn := s.drawn, toks := s.toks } := by
  refine I.step (ch := T.toList) (fun c hc => ?_) (fun c o h1 h2 h3 q n => ?_) (fun c o h1 h2 h3 q n => N.slot c o (List.mem_cons_of_mem _ h2) q) (fun _ _ _ _ n => n) (fun c o h3 q => ?_) (fun _ _ q => q) (fun _ _ _ q => q) (fun _ _ q => q) (fun m hm => ?_) hok' I.bare
  ·have e1 : T = some c := by cases T <;> simp at hc; rw [hc]
   obtain ⟨t1, t2, t3⟩ := hT c e1
   rw [e1] at ht
   obtain ⟨_, _, oT, ts, x, hTo, hTd, _⟩ := ht
   obtain ⟨a1, a2⟩ := wN I hTo hTd
   exact ⟨.inr t2, a1, a2, fun p hp => t3 p (by simpa using hp)⟩
  ·refine N.keep c o ?_ ?_ ?_ q
   ·intro z
    rcases List.mem_cons.mp z with z | z
    ·exact h1 z
    ·exact h2 z
   ·intro z; rw [z, f.tr] at n; cases n
   ·intro t e1 z; exact h3 (by rw [e1, z]; simp)
  ·by_cases hc : c = e
   ·subst hc
    obtain ⟨vs', q', _⟩ := N.exc
    exact ⟨_, q'⟩
   ·by_cases hF : c ∈ X.env.locals :: X.fs
    ·obtain ⟨sl, q'⟩ := N.slot c o hF q
     exact ⟨_, q'⟩
    ·exact ⟨o, N.keep c o hF hc (fun t e1 z => h3 (by rw [e1, z]; simp)) q⟩
  ·obtain ⟨o, es, ep, ho, r⟩ := hm
   obtain ⟨sl, q'⟩ := N.slot _ o List.mem_cons_self ho
   exact ⟨_, es, ep, q', r⟩
 refine h _ I' ⟨f.tr, ?_⟩
 obtain ⟨vs', q', t'⟩ := N.exc
 refine ⟨vs', T', q', t', fun t e1 => ?_, fun _ => hT'⟩
 rcases N.new with ⟨t2, e2, hle⟩ | ⟨e2, _⟩
 ·rw [e1] at e2; cases e2
  refine ⟨I.hok.fresh hle, Nat.le_trans I.sz hle, fun p hp z => ?_⟩
  have := Heap.lt_size (I.pin p (List.mem_append_left _ hp)).1
  rw [z] at this
  exact absurd (Nat.lt_of_lt_of_le this hle) (Nat.lt_irrefl _)
 ·exact hT t (e2 ▸ e1)
theorem m5 {Q : Unit -> Shared -> Prop} {E' : Value -> Shared -> Prop} {fr : Option Addr} {A : Around} (I : Inv X [] σ H s) (f : FlyAt X H s.heap e C od true) (h : ∀ s', Inv X [] σ H s' -> FlyAt X H s'.heap e C od true -> Q () s') :
  wpAny (model X.prog X.w) A (setFlight (.ref e) fr) Q E' s := by
 obtain ⟨vs, T, he, ht, hT, hn⟩ := f.tb
 cases T with
 | none => exact absurd rfl (hn rfl)
 | some t =>
  obtain ⟨t1, t2, t3⟩ := hT t rfl
  refine SX.aAV he ht fun h' sb ht' => ?_
  obtain ⟨_, hte, oT, ts, x, hTo, hTd, _⟩ := ht
  obtain ⟨a1, a2⟩ := wN I hTo hTd
  have I' : Inv X [] σ H { s with heap := h' } := I.turned (t' := s.toks) (it := t) (fun b o hb q => (sb.2 b hb).trans q) t1 a1 (.inr t2) a2 fun p hp => t3 p (by simpa using hp)
  exact h _ I' ⟨f.tr, vs, some t, (sb.2 e (Ne.symm hte)).trans he, ht', fun t' e1 => by cases e1; exact ⟨t1, t2, t3⟩, fun _ => by simp⟩
theorem aCB {Q : Value -> Shared -> Prop} {E' : Value -> Shared -> Prop} {A : Around} (f : FlyAt X H s.heap e C od true) (h : ∀ t, Q (.ref t) s) : wpAny (model X.prog X.w) A (field (.ref e) 1) Q E' s := by
 obtain ⟨vs, T, he, ht, hT, hn⟩ := f.tb
 cases T with
 | none => exact absurd rfl (hn rfl)
 | some t => exact wpAny_field he rfl ht.1 (h t)
theorem eP {E : XK} (hO : mC X) : PassesOwn (model X.prog X.w) X.A X.env (Fly X E) := by
 rintro ev s' ⟨e, C, od, σ, H, rfl, I, f, q⟩
 refine nU hO I f fun s2 I2 f2 => ?_
 unfold cameBackBy
 refine wpAny_bind (aCB f2 fun t => ?_)
 rw [if_neg (by simp)]
 exact m5 I2 f2 fun s3 I3 f3 => ⟨e, C, od, σ, H, rfl, I3, ⟨f3.tr, let ⟨vs, T, a, b, c, _⟩ := f3.tb; ⟨vs, T, a, b, c, fun z => nomatch z⟩⟩, q⟩
end
def CXe (P : Program) (w : World) : CXT := fun outer H s E ev s' => ∃ e C od H', ev = .ref e /\ s'.os = s.os /\ AllBare s'.gens /\ Un (frs outer) [] H H' s.heap s'.heap /\ HOk P w H' s'.heap /\ H' e = some (ExO e C od) /\
 (∃ vs T, s'.heap.get? e = some ⟨.ref C, od, .fields vs, #[]⟩ /\ SX.rM s'.heap vs e T /\ ∀ t, T = some t -> H' t = none /\ s.heap.objs.size <= t) /\ E (.ref C) (some e) H'
section
variable {X : Cx}
theorem cI {E E' : XK} (hE : ∀ c e H, E c e H -> E' c e H) : lS (CXe X.prog X.w) (X.fly E') E := by
 rintro pins σ H s ev s' I ⟨e, C, od, H', rfl, os, bare, un, hok, he, ⟨vs, T, q1, q2, q3⟩, q⟩
 have I0 : Inv X pins σ H s := I.unwish
 have I1 : Inv X [] σ H s := I0.pins_of fun p hp => absurd hp (by simp)
 have I2 : Inv X [] σ H' s' := I1.call' os un hok bare (fun b hb => absurd hb (by simp))
 refine ⟨e, C, od, σ, H', rfl, I2, ⟨he, vs, T, q1, q2, fun t e1 => ?_, fun z => nomatch z⟩, hE _ _ _ q⟩
 obtain ⟨t1, t2⟩ := q3 t e1
 refine ⟨t1, Nat.le_trans I0.sz t2, fun p hp z => ?_⟩
 have := Heap.lt_size (I0.pin p (List.mem_append_left _ hp)).1
 rw [z] at this
 exact absurd (Nat.lt_of_lt_of_le this t2) (Nat.lt_irrefl _)
theorem PSs.unfly {E : XK} {st : List Stmt} {t : TS} (h : PSs (X.fly E) st t) (hx : ∀ e s', Fly X E e s' -> X.xe e s') : PSs X st t := fun pins s σ H D I hw =>
 wpAny_mono (h pins s σ H D (I.wish _) hw) (fun f s' q => SP.unwish q) hx
end
theorem vA {P : Program} {w : World} {K : Frag} {mg : Str -> Option Value} {base : Heap} {N : List Str} {qual : Str} {scope : Scope} {f : Addr} {cd : Value} {A : Around} {outer : List Env} {s : Shared} {H : Hp} {E : XK} {ev : Value} {s' : Shared}
  (h : Fly (j2 (CXe P w) P w K mg base N qual scope f cd A outer s H E) E ev s') : (j2 (CXe P w) P w K mg base N qual scope f cd A outer s H E).xe ev s' := by
 obtain ⟨e, C, od, σ, H', rfl, I, fl, q⟩ := h
 show wpAny (model P w) _ (leaving _ (.ref e)) _ _ s'
 unfold leaving
 have hO : mC (j2 (CXe P w) P w K mg base N qual scope f cd A outer s H E) := ⟨rfl, rfl⟩
 refine wpAny_bind (nU hO I fl fun s2 I2 f2 => m5 I2 f2 fun s3 I3 f3 => ?_)
 obtain ⟨vs, T, a, b, c, _⟩ := f3.tb
 exact ⟨e, C, od, H', rfl, I3.os, I3.bare, I3.base, I3.hok, f3.tr, ⟨vs, T, a, b, fun t e1 => ⟨(c t e1).1, (c t e1).2.1⟩⟩, q⟩
section
variable {P : Program} {w : World} {K : Frag} {mg : Str -> Option Value} {base : Heap}
theorem Fun.okX {x qual : Str} {st : Stmt} {f : Addr} {fd : FuncData} {N ps : List Str} {k : Nat} {sp : Sp} (F : Fun K x qual st f fd) (S : FnScope N ps (aL st)) (len : ∀ vs H Q E, sp vs H Q E -> vs.length = ps.length)
  (hbody : ∀ (cdv : Value) (A : Around) (outer : List Env) (s : Shared) (H : Hp) (vs : List V) (Q : VK) (E : XK), Room k (A.deeper (envOfC qual (aL st) s.heap.objs.size f cdv)) -> sp vs H Q E ->
   ∃ t, PSs ((j2 (CXe P w) P w K mg base N qual (aL st) f cdv A outer s H E).fly E) (c7 st) t /\ t { nx := fun _ H' => Q .non H', rt := Q } (start N vs) H) : FnOk P w K mg base (CXe P w) (k + 1) f fd ps sp := by
 obtain ⟨oc, od, kV, doc, pm, an, cdv, ct, osl, rfl, lk, hcd⟩ := F.ex
 refine aFP lk hcd S len fun A outer s H vs Q E hr hsp => ?_
 obtain ⟨t, h, q⟩ := hbody cdv A outer s H vs Q E hr hsp
 exact ⟨t, h.unfly fun _ _ z => vA z, q⟩
end
end L2
namespace L2
open PySem PySem.Spec PyProof.Rows
inductive TyX (K : Frag) (H : Hp) : V -> Value -> Prop where
 | pl {x : V} {t : Value} (h : TyOf K H x t) : TyX K H x t
 | exc {a W C : Addr} {d : Addr} {fs : List (Str × V)} (c : SX.ExcC K W C) (e : H a = some (ExO a C (some d))) (ed : H d = some (.xd fs)) : TyX K H (.ref a) (.ref C)
 | exc0 {a W C : Addr} (c : SX.ExcC K W C) (e : H a = some (ExO a C none)) : TyX K H (.ref a) (.ref C)
def rN : V -> Option Value
 | .ty n => some (.type n)
 | .ref a => some (.ref a)
 | _ => none
theorem uA {x : V} {u v : Value} (h : rN x = some v) (r : a5 x u) : u = v := by
 cases x with
 | ty n => cases h; exact r
 | ref a => cases h; exact r
 | _ => cases h
theorem fP {X : Cx} : kH X (.builtin "isinstance") (fun xs H Q => ∃ x c t cv b, xs = [x, c] /\ TyX X.K H x t /\ rN c = some cv /\ PySem.W.kitOne X.K t cv = some b /\ Q (.bl b) H) := by
 intro pins s σ H xs us Q I r h
 obtain ⟨x, c, t, cv, b, rfl, ty, hc, e, q⟩ := h
 obtain ⟨u, v, rfl, ru, rv⟩ := v8 r
 obtain rfl := uA hc rv
 cases ty with
 | pl ty => exact aB2 I ru ty e fun tk => ⟨.bl b, H, I.tok _, rfl, q⟩
 | @exc a W C d fs cc ea ed =>
  cases (show u = Value.ref a from ru)
  obtain ⟨vs, hx⟩ := sW I.hok ea
  obtain ⟨mA, hns, r⟩ := (show bZ X.prog X.w H s.heap d (.xd fs) from I.hok d _ ed)
  obtain ⟨od, hod, _⟩ := o0 hns
  exact SX.sV (o := some od) I.kIn cc ⟨hx, rfl, rfl, hod⟩ e fun tk => ⟨.bl b, H, I.tok _, rfl, q⟩
 | @exc0 a W C cc ea =>
  cases (show u = Value.ref a from ru)
  obtain ⟨vs, hx⟩ := sW I.hok ea
  exact SX.sV (o := none) I.kIn cc ⟨hx, rfl, rfl, True.intro⟩ e fun tk => ⟨.bl b, H, I.tok _, rfl, q⟩
end L2
namespace SX
open PySem PySem.W
structure ExcAny (K : Frag) (C : Addr) (bm : List Value) : Prop where
 lk : ∃ nm q N bs hd sn sub ab col dd k0 k1 k2 k3 k5 newId, K.lookup C = some (excClassObj nm q C N bs bm hd sn sub ab col dd k0 k1 k2 k3 k5 newId)
 base : bm.contains (.type "BaseException") = true
theorem yO {M : Model} {A : Around} {E : Value -> Shared -> Prop} {K : Frag} {C W : Addr} {bmC bmW : List Value} {s : Shared} {e : Addr} {oe : Obj} {Q : Bool -> Shared -> Prop} (X : K.In s.heap) (c : ExcAny K C bmC) (w : ExcAny K W bmW)
  (he : s.heap.get? e = some oe) (hcls : oe.cls = .ref C) (hq : Q ((Value.ref C :: bmC).contains (.ref W)) s) : wpAny M A (excMatches (.ref e) (.ref W)) Q E s := by
 obtain ⟨nm, q, N, bs, hd, sn, sub, ab, col, dd, k0, k1, k2, k3, k5, nid, lC⟩ := c.lk
 obtain ⟨nm', q', N', bs', hd', sn', sub', ab', col', dd', k0', k1', k2', k3', k5', nid', lW⟩ := w.lk
 have hC := X _ _ lC
 have hW := X _ _ lW
 have hcB : (Value.ref W :: bmW).contains (.type "BaseException") = true := by rw [List.contains_cons, w.base, Bool.or_true]
 have f := tc_notTuple
 obtain ⟨hp, g, d, t, os⟩ := s
 unfold excMatches
 repeat (first | (with_reducible refine wpAny_loadPart_at he ?_; rw [hcls]) | with_reducible refine wpAny_loadPart_at hW ?_ | (with_reducible refine wpAny_isSubtype_exc hW ?_; rw [hcB]) | with_reducible refine wpAny_isSubtype_exc hC ?_ | wp_step)
 cases hb : (Value.ref C :: bmC).contains (.ref W) <;> (rw [hb] at hq; wp_walk; exact hq)
end SX
namespace L2
open PySem PySem.Spec PyProof.Rows
abbrev Cx.pnw (X : Cx) (pn : List (Addr × Obj)) : Cx := { X with pn := pn }
abbrev Cx.inH (X : Cx) (e : Addr) : Cx := { X with A := X.A.mark (some (.ref e)), calm := false, xe := fun _ _ => False }
section
variable {X : Cx} {pins : List (Addr × Obj)} {σ : St} {H : Hp} {s : Shared} {e : Addr}
theorem Cx.Ok.pnw {X : Cx} (ok : X.Ok) (pn : List (Addr × Obj)) : (X.pnw pn).Ok :=
 ⟨ok.mod, ok.kind, ok.glob, ok.blt, ok.above, ok.inj, ok.has, ok.cab, ok.hd, ok.frames, ok.stk, ok.exf, ok.bs, ok.bsz, ok.noex, ok.exfs, ok.funs, ok.frf⟩
theorem Cx.Ok.unpn {X : Cx} {pn : List (Addr × Obj)} (ok : (X.pnw pn).Ok) : X.Ok :=
 ⟨ok.mod, ok.kind, ok.glob, ok.blt, ok.above, ok.inj, ok.has, ok.cab, ok.hd, ok.frames, ok.stk, ok.exf, ok.bs, ok.bsz, ok.noex, ok.exfs, ok.funs, ok.frf⟩
theorem Inv.toPn (I : Inv X pins σ H s) : Inv (X.pnw (X.pn ++ pins)) [] σ H s :=
 ⟨I.ok.pnw _, I.os, I.bare, I.base, I.loc, I.cell, I.free, I.freeC, fun p hp => I.pin p (by
  have z : p ∈ (X.pn ++ pins) ++ [] := hp
  rw [List.append_nil] at z
  exact z), I.hok, I.len⟩
theorem Inv.ofPn {pl : List (Addr × Obj)} (I : Inv (X.pnw (X.pn ++ pins)) pl σ H s) : Inv X pins σ H s :=
 ⟨I.ok.unpn, I.os, I.bare, I.base, I.loc, I.cell, I.free, I.freeC, fun p hp => I.pin p (List.mem_append_left _ hp), I.hok, I.len⟩
theorem SP.ofPn {pl : List (Addr × Obj)} {E : Value -> Shared -> Prop} {D : iQ} {f : Flow} {s' : Shared} (h : SP ((X.pnw (X.pn ++ pins)).wish E) pl D f s') : SP X pins D f s' := by
 cases f with
 | next => obtain ⟨a, b, c, d⟩ := h; exact ⟨a, b, c.unwish.ofPn, d⟩
 | brk => obtain ⟨a, b, c, d⟩ := h; exact ⟨a, b, c.unwish.ofPn, d⟩
 | cont => obtain ⟨a, b, c, d⟩ := h; exact ⟨a, b, c.unwish.ofPn, d⟩
 | ret u => obtain ⟨v, a, b, c, d⟩ := h; exact ⟨v, a, b, c.unwish.ofPn, d⟩
theorem Cx.Ok.inH {X : Cx} (ok : X.Ok) (e : Addr) : (X.inH e).Ok :=
 ⟨ok.mod, ok.kind, ok.glob, ok.blt, ok.above, ok.inj, ok.has, ok.cab, (fun z => nomatch z), ok.frames, ok.stk, ok.exf, ok.bs, ok.bsz, ok.noex, ok.exfs, ok.funs, ok.frf⟩
theorem Inv.inH (I : Inv X pins σ H s) (e : Addr) : Inv (X.inH e) pins σ H s :=
 ⟨I.ok.inH e, I.os, I.bare, I.base, I.loc, I.cell, I.free, I.freeC, I.pin, I.hok, I.len⟩
theorem Inv.ofH (ok : X.Ok) (I : Inv (X.inH e) pins σ H s) : Inv X pins σ H s :=
 ⟨ok, I.os, I.bare, I.base, I.loc, I.cell, I.free, I.freeC, I.pin, I.hok, I.len⟩
theorem mD {i : Nat} {n : Str} {hpos : Pos} {Q : Unit -> Shared -> Prop} {M : Model} {A : Around} {E' : Value -> Shared -> Prop} (I : Inv X pins σ H s) (hN : X.N.Nodup) (hi : X.N[i]? = some n) (hk : X.env.kindOf n = some .local)
  (h : ∀ s', Inv X pins (σ.set i none) H s' -> Q () s') : wpAny M A (do bindName X.env n .none; unbindBehindTheSuite X.env n hpos) Q E' s := by
 obtain ⟨m, hn, hl⟩ := id I.loc
 have hcls : (X.env.scope.kind == .class || (X.env.scope.kind == .module && X.env.locals != X.env.globals)) = false := by rw [I.ok.kind]; rfl
 refine wpAny_nameGoes_keeps hk hn hcls fun h' v hn' hs => h _ ?_
 obtain ⟨oL, _, _, hoL, _⟩ := id hn
 have neL : ∀ b o, X.s₀.heap.get? b = some o -> b ≠ X.env.locals := fun b o e => Nat.ne_of_lt (Nat.lt_of_lt_of_le (Heap.lt_size e) I.ok.above)
 refine ⟨I.ok, I.os, I.bare, ⟨fun b o e n hb hx => (hs.2 b (neL b o e)).trans (I.base.keep b o e n hb hx), fun b o e n hb hx => ?_, I.base.free, fun b o e hx => ?_, I.base.tups, I.base.frzs, I.base.tbls⟩, ⟨_, hn', fun j y v' e1 e2 e3 => ?_⟩, fun y c e => ?_, I.free, I.freeC, fun p hp => ?_, fun b ob e => ?_, by simpa using I.len⟩
 ·obtain ⟨sl, e1⟩ := I.base.slot b o e n hb hx
  exact ⟨sl, (hs.2 b (neL b o e)).trans e1⟩
 ·obtain ⟨o', e1⟩ := I.base.there b o e hx
  exact ⟨o', (hs.2 b (neL b o e)).trans e1⟩
 ·by_cases hj : j = i
  ·subst hj
   have hiσ : j < σ.length := by rw [I.len]; exact (List.getElem?_eq_some_iff.mp hi).1
   rw [List.getElem?_set_self hiσ] at e2; cases e2
  ·rw [List.getElem?_set_ne (Ne.symm hj)] at e2
   obtain ⟨u', r', q⟩ := hl j y v' e1 e2 e3
   refine ⟨u', r', ?_⟩
   rcases q with ⟨k, e⟩ | ⟨k, c, e, z⟩
   ·refine .inl ⟨k, ?_⟩
    have : y ≠ n := fun e => hj (rK hN e1 (e ▸ hi))
    simp [this, e]
   ·exact .inr ⟨k, c, e, z.sameBut hs (I.cne y c e)⟩
 ·obtain ⟨w', z⟩ := I.cell y c e
  exact ⟨w', z.sameBut hs (I.cne y c e)⟩
 ·obtain ⟨e, n, ne, nf, d⟩ := I.pin p hp
  exact ⟨(hs.2 p.1 ne).trans e, n, ne, nf, d⟩
 ·refine (I.hok b ob e).stay (fun c w' hc q => (hs.2 c ?_).trans q) (fun _ q => q) (fun _ _ q => q) fun _ _ q => q
  rintro rfl
  rcases hc with hc | hc
  ·rw [<- hc, I.free] at e; cases e
  ·rw [I.free] at hc; cases hc
end
end L2
namespace L2
open PySem PySem.Spec PyProof.Rows
structure Blt (mg : Str -> Option Value) : Prop where
 b_len : mg "len" = none
 b_isinstance : mg "isinstance" = none
 b_all : mg "all" = none
 b_max : mg "max" = none
 b_min : mg "min" = none
 b_int : mg "int" = none
 b_str : mg "str" = none
 b_bool : mg "bool" = none
 b_tuple : mg "tuple" = none
 b_list : mg "list" = none
 b_range : mg "range" = none
 b_enumerate : mg "enumerate" = none
 b_ValueError : mg "ValueError" = none
structure DefAt (K : Frag) (mg : Str -> Option Value) (x : Str) (st : Stmt) (ps : List Str) : Prop where
 ex : ∃ f fd, Fun K x x st f fd /\ iE K fd ps [] /\ mg x = some (.ref f)
def Calls (P : Program) (w : World) (K : Frag) (mg : Str -> Option Value) (base : Heap) (CX : CXT) (k : Nat) (x : Str) (ps : List Str) (sp : Sp) : Prop :=
 ∃ f fd, FnOk P w K mg base CX k f fd ps sp /\ iE K fd ps [] /\ mg x = some (.ref f) /\ PySem.W.keepIn K (.ref f) = true
section
variable {P : Program} {w : World} {K : Frag} {mg : Str -> Option Value} {base : Heap} {x : Str} {st : Stmt} {N ps : List Str} {k : Nat} {sp : Sp}
theorem DefAt.okX (D : DefAt K mg x st ps) (S : FnScope N ps (aL st)) (len : ∀ vs H Q E, sp vs H Q E -> vs.length = ps.length)
  (hbody : ∀ (f : Addr) (cdv : Value) (A : Around) (outer : List Env) (s : Shared) (H : Hp) (vs : List V) (Q : VK) (E : XK), Room k (A.deeper (envOfC x (aL st) s.heap.objs.size f cdv)) -> sp vs H Q E ->
   ∃ t, PSs ((j2 (CXe P w) P w K mg base N x (aL st) f cdv A outer s H E).fly E) (c7 st) t /\ t { nx := fun _ H' => Q .non H', rt := Q } (start N vs) H) : Calls P w K mg base (CXe P w) (k + 1) x ps sp := by
 obtain ⟨f, fd, F, b, m⟩ := D.ex
 exact ⟨f, fd, F.okX S len (hbody f), b, m, F.kp⟩
end
section
variable {X : Cx} {CX : CXT} {k : Nat} {x : Str} {ps : List Str} {sp : Sp} {E : XK} {p pos : Pos} {e : Expr} {es : List Expr} {t : TA}
theorem b9 (C : Calls X.prog X.w X.K X.mg X.base CX k x ps sp) (hr : Room k X.A) (hg : Gl X x) (hx : lS CX X E) (ha : PA X (e :: es) t) (hdb : (x == ("__debug__" : Str)) = false := by decide)
  (he : starEach (e :: es) X.env = (false, eval e X.env) :: starEach es X.env := by rfl) (hpl : (backTo pos (starEach es X.env)).any (·.1) = false := by rfl) : PE X (.Call (.Name x p) (e :: es) [] pos) (p8 sp [] E t) := by
 obtain ⟨f, fd, F, b, m, kp⟩ := C
 exact aGF F hr hg m kp b .nil hx ha hdb he hpl
end
def spI (C : Addr) (fs : List Str) : Sp := fun vs H Q _ => ∃ e xs, vs = .ref e :: xs /\ xs.length = fs.length /\ H e = some (ExN e C none) /\ ∀ d, H d = none -> d ≠ e -> Q .non (upd (upd H e (ExN e C (some d))) d (.xd (fs.zip xs)))
structure ErrAt (P : Program) (w : World) (K : Frag) (mg : Str -> Option Value) (base : Heap) (x : Str) (fs : List Str) (W C : Addr) : Prop where
 c : SX.ExcC K W C
 m : mg x = some (.ref C)
 na : ∀ f ∈ fs, PySem.W.findIn K (.ref C) f = some none
 i : ∃ fI fdI, FnOk P w K mg base CX0 1 fI fdI ("self" :: fs) (spI C fs) /\ PySem.W.findIn K (.ref C) "__init__" = some (some (.ref fI)) /\ PySem.W.typeIn K (.ref fI) = some (.type "function") /\ iE K fdI ("self" :: fs) []
theorem DatV.tup_of {K : Frag} {H : Hp} {v : V} {ds : List PyData} (h : DatV K H v (.tuple ds)) : ∃ a xs, v = .ref a /\ SqT K H a xs /\ DatVs K H xs ds := by
 cases h with
 | tup h1 h2 => exact ⟨_, _, rfl, h1, h2⟩
theorem DatV.lst_of {K : Frag} {H : Hp} {v : V} {ds : List PyData} (h : DatV K H v (.list ds)) : ∃ a xs, v = .ref a /\ SqL K H a xs /\ DatVs K H xs ds := by
 cases h with
 | lst h1 h2 => exact ⟨_, _, rfl, h1, h2⟩
theorem DatV.int_of {K : Frag} {H : Hp} {v : V} {i : Int} (h : DatV K H v (.int i)) : v = .int i := by cases h; rfl
theorem DatV.str_of {K : Frag} {H : Hp} {v : V} {i : Str} (h : DatV K H v (.str i)) : v = .str i := by cases h; rfl
theorem DatVs.cons_of {K : Frag} {H : Hp} {xs : List V} {d : PyData} {ds : List PyData} (h : DatVs K H xs (d :: ds)) : ∃ x t, xs = x :: t /\ DatV K H x d /\ DatVs K H t ds := by
 cases h with
 | cons h1 h2 => exact ⟨_, _, rfl, h1, h2⟩
theorem DatVs.nil_of {K : Frag} {H : Hp} {xs : List V} (h : DatVs K H xs []) : xs = [] := by cases h; rfl
theorem g7.nil_of {σ : St} (h : g7 [] σ) : σ = [] := List.length_eq_zero_iff.mp h.1
def SqS (K : Frag) (H : Hp) (a : Addr) (xs : List V) : Prop := SqL K H a xs \/ SqT K H a xs
theorem PI.or {X : Cx} {tg iter : Expr} {w1 w2 : TI} (h1 : PI X tg iter w1) (h2 : PI X tg iter w2) : PI X tg iter (fun σ H R => w1 σ H R \/ w2 σ H R) := fun pins s σ H R I h => h.elim (h1 pins s σ H R I) (h2 pins s σ H R I)
def aND (K : Frag) (tl : TE) : TI := fun σ H R => tl σ H fun x H1 => ∃ a, x = .ref a /\ (((∃ xs, SqL K H1 a xs) /\ R (Itl K a) H1) \/ ((∃ xs, SqT K H1 a xs) /\ R (Itt K a) H1))
theorem aCC {X : Cx} {tg l : Expr} {tl : TE} (hl : PE X l tl) : PI X tg l (aND X.K tl) := by
 intro pins s σ H R I h
 refine thn (hl pins s σ H _ I h) fun v s1 ⟨x, H1, I1, r1, q1⟩ => ?_
 obtain ⟨a, e, q⟩ := q1
 subst e
 cases r1
 rcases q with ⟨⟨xs, hq⟩, q⟩ | ⟨⟨xs, hq⟩, q⟩
 ·obtain ⟨its, rv, p, hz⟩ := I1.list hq
  refine wpAny_pyIter_list p.isList ?_
  refine ⟨s1.heap.objs.size, [s1.heap.objs.size], _, _, H1, rfl, I1.kept (t' := s1.toks) fun b o e => Heap.get?_push_of_some _ e, aBZ a _, ⟨_, Heap.get?_push_size _ rfl, rfl, rfl⟩, fun b hb => ?_, q⟩
  obtain rfl := List.mem_singleton.mp hb
  exact I1.fpOk (Nat.le_refl _) (I1.hok.fresh (Nat.le_refl _))
 ·obtain ⟨its, rv, p, hz⟩ := I1.tuple hq
  refine wpAny_pyIter_tuple (show s1.heap.IsTuple a its.toArray from p) ?_
  refine ⟨s1.heap.objs.size, [s1.heap.objs.size], _, _, H1, rfl, I1.kept (t' := s1.toks) fun b o e => Heap.get?_push_of_some _ e, aAN a _, ⟨_, Heap.get?_push_size _ rfl, rfl, rfl⟩, fun b hb => ?_, q⟩
  obtain rfl := List.mem_singleton.mp hb
  exact I1.fpOk (Nat.le_refl _) (I1.hok.fresh (Nat.le_refl _))
end L2
namespace L2
open PySem PySem.Spec PyProof.Rows
def aL4 (i j : Int) : Prop := 0 < j /\ j < 2 ^ 64
theorem aD2 {X : Cx} : OpR X (binaryOp .FloorDiv) (rI aL4 fun i j => .int (i / j)) := opI fun i j _ _ _ _ _ hc q => by
 have h1 : (0 : Int) < j := hc.1
 have h2 : j < 2 ^ 64 := hc.2
 have h3 : j.natAbs < 2 ^ 64 := by omega
 have h4 : j.natAbs.log2 < 64 := (Nat.log2_lt (by omega)).mpr h3
 exact floordiv_int (by omega) (by rw [Int.fdiv_eq_ediv_of_nonneg i (by omega)]; exact q) (.inl (PyProof.noPylong_of_log2 (by omega)))
theorem p9 {X : Cx} {P : Program} {w : World} : lS (CXe P w) X E0 := by
 rintro pins σ H s ev s' I ⟨e, C, od, H', rfl, os, bare, un, hok, he, hv, q⟩
 exact q.elim
section
variable {X : Cx}
def aNE : V -> Option Int -> Option Int -> Hp -> VK -> Prop := fun x lo hi H Q => ∃ z, x = .str z /\ z.length <= sizeLine /\ Q (.str (Txt.slice z lo hi)) H
theorem y8 {v : Value} {o : Option Int} (h : IsPart v o) : ∃ l : Option (Int × Tok), partValue l = v /\ l.map (·.1) = o := by
 cases h with
 | none => exact ⟨none, rfl, rfl⟩
 | int i t => exact ⟨some (i, t), rfl, rfl⟩
theorem aJG : SlR X aNE := by
 intro pins s σ H x v vl vu lo hi sl Q I rx hs pl pu h
 obtain ⟨z, rfl, hz, q⟩ := h
 obtain ⟨t, rfl⟩ := rx
 obtain ⟨l, rfl, el⟩ := y8 pl
 obtain ⟨u, rfl, eu⟩ := y8 pu
 obtain ⟨o, ho, hc, hd⟩ := hs
 refine ⟨"str", _, PyProof.Rows.slot_str_getitem.lookup, rfl, ?_⟩
 refine wpAny_getItem_str_slice (l := l) (u := u) (st := none) ⟨o, ho, hc, hd⟩ rfl ?_
 have le := Txt.slice_le z lo hi
 unfold Txt.slice at q le
 unfold sliceMade slicePicked
 rw [el, eu]
 simp only [beq_self_eq_true, Bool.true_and, Option.map_none, Option.getD_none] at q le ⊢
 by_cases hb : ((Builtin.Str.strSliceIndices lo hi 1 z.length).length == z.length) = true
 ·rw [if_pos hb] at q ⊢
  exact ⟨.str z, H, I, ⟨t, rfl⟩, q⟩
 ·rw [if_neg hb] at q le ⊢
  exact ⟨Nat.le_trans le hz, .str _, H, I.tok _, ⟨_, rfl⟩, q⟩
def aCD : V -> List V -> Hp -> VK -> Prop := fun x vs H Q => ∃ z y i rest, x = .str z /\ vs = [.str y] /\ Builtin.Str.occurrences z y 0 z.length 1 = i :: rest /\ Q (.int i) H
theorem aD3 : MtR X "str.index" aCD := by
 intro pins s σ H x vs v us Q I rx rv h
 obtain ⟨z, y, i, rest, rfl, rfl, ho, q⟩ := h
 obtain ⟨t, rfl⟩ := rx
 obtain ⟨u, rfl, tu, rfl⟩ := rv.one
 exact call_gives F.slot_str_index rfl F.entry_str_index (F.args_str_index_2 _ _) (gives_str_index z y t tu i rest ho) ⟨.int i, H, I.tok _, ⟨_, rfl⟩, q⟩
def aNF (K : Frag) : List V -> Hp -> VK -> Prop := fun xs H Q => ∃ (a W C d : Addr) (fs : List (Str × V)) (p : Addr) (as : List Addr) (b : Bool), xs = [.ref a, .ref p] /\ SX.ExcC K W C /\ H a = some (ExO a C (some d)) /\ H d = some (.xd fs) /\ SqT K H p (as.map V.ref) /\ PySem.W.kitAny K (.ref C) (as.map Value.ref) = some b /\ Q (.bl b) H
theorem vB : ∀ {as : List Addr} {us : List Value}, bH (as.map V.ref) us -> us = as.map Value.ref
 | [], _, .nil => rfl
 | a :: as, _, .cons r t => by rw [vB t]; cases r; rfl
theorem aJH : kH X (.builtin "isinstance") (aNF X.K) := by
 intro pins s σ H xs us Q I r h
 obtain ⟨a, W, C, d, fs, p, as, b, rfl, cc, ea, ed, hp, e, q⟩ := h
 obtain ⟨u, v, rfl, ru, rv⟩ := v8 r
 cases (show u = Value.ref a from ru)
 cases (show v = Value.ref p from rv)
 obtain ⟨vs, hx⟩ := sW I.hok ea
 obtain ⟨mA, hns, r⟩ := (show bZ X.prog X.w H s.heap d (.xd fs) from I.hok d _ ed)
 obtain ⟨od, hod, _⟩ := o0 hns
 obtain ⟨its, r1, ht, _⟩ := I.tuple hp
 obtain ⟨⟨oc, odt, odata, osl⟩, eo, hc, n, hdt⟩ := ht
 cases (show oc = .type "tuple" from hc)
 cases (show odata = .seq its.toArray n from hdt)
 rw [<- vB r1] at e
 exact PySem.W.kia_tup (SX.wM (vs := vs) (od := some d) (o := some od) cc) I.kIn ⟨hx, rfl, rfl, hod⟩ eo e (fun z => nomatch z) fun tk => ⟨.bl b, H, I.tok _, rfl, q⟩
end
theorem wO {X : Cx} : kH X (.builtin "isinstance") (fun xs H Q => ∃ a ys c cv b, xs = [.ref a, c] /\ SqT X.K H a ys /\ rN c = some cv /\ PySem.W.kitOne X.K (.type "tuple") cv = some b /\ Q (.bl b) H) := by
 intro pins s σ H xs us Q I r h
 obtain ⟨a, ys, c, cv, b, rfl, ha, hc, e, q⟩ := h
 obtain ⟨u, v, rfl, ru, rv⟩ := v8 r
 obtain rfl := uA hc rv
 cases (show u = Value.ref a from ru)
 obtain ⟨its, _, ⟨o, h1, h2, _⟩, _⟩ := I.tuple ha
 exact PySem.W.kia_one PySem.W.kitx_tuple I.kIn ⟨o, h1, h2⟩ e (fun z => nomatch z) fun tk => ⟨.bl b, H, I.tok _, rfl, q⟩
structure RoomH (k : Nat) (A : Around) : Prop where
 dp : A.depth + 3 * k + 5 < recursionLimit
 un : A.units + 16 * k + 200 < cLine
structure FnOkH (P : Program) (w : World) (K : Frag) (mg : Str -> Option Value) (base : Heap) (k : Nat) (f : Addr) (fd : FuncData) (ps : List Str) (sp : Sp) : Prop where
 len : ∀ vs H Q E, sp vs H Q E -> vs.length = ps.length
 run : ∀ (A : Around) (outer : List Env) (s : Shared) (H : Hp) (args : Args) (us : List Value) (vs : List V) (Q : VK), RoomH k A -> Env0 P w K mg base A outer s H -> BindsTo s fd args (ps.zip us) -> bH vs us -> sp vs H Q E0 ->
  codeAny (model P w) A (.call (.ref f) args) (CR CX0 outer P w H s Q E0) s
end L2
namespace Mc
open PySem L2 PyProof.Rows
inductive Tn where
 | n (i : Int) | w (x : Str)
def Tn.v : Tn -> V
 | .n i => .int i
 | .w x => .str x
def Tn.d : Tn -> PyData
 | .n i => .int i
 | .w x => .str x
structure Rw where
 l : Tn
 c : List (Int × Int)
 r : Tn
def dS (c : Int × Int) : PyData := .tuple [.int c.1, .int c.2]
def cL (r : Rw) : PyData := .tuple [r.l.d, .tuple (r.c.map dS), r.r.d]
def bV (rs : List Rw) : PyData := .tuple (rs.map cL)
inductive CellsAt (K : Frag) (H : Hp) : List V -> List (Int × Int) -> Prop
 | nil : CellsAt K H [] []
 | cons {q : Addr} {a b : Int} {xs : List V} {cs : List (Int × Int)} (h : SqS K H q [.int a, .int b]) (t : CellsAt K H xs cs) : CellsAt K H (.ref q :: xs) ((a, b) :: cs)
def aL5 (K : Frag) (H : Hp) (v : V) (r : Rw) : Prop := ∃ p b cs, v = .ref p /\ SqS K H p [r.l.v, .ref b, r.r.v] /\ SqS K H b cs /\ CellsAt K H cs r.c
inductive RowsAt (K : Frag) (H : Hp) : List V -> List Rw -> Prop
 | nil : RowsAt K H [] []
 | cons {v : V} {r : Rw} {xs : List V} {rs : List Rw} (h : aL5 K H v r) (t : RowsAt K H xs rs) : RowsAt K H (v :: xs) (r :: rs)
def Tn.ok : Tn -> Prop
 | .n _ => True
 | .w x => PyData.strOk x = true
def Rw.ok (r : Rw) : Prop := r.l.ok /\ r.r.ok
theorem y9 : ∀ {xs : List PyData}, (∀ x ∈ xs, x.canLay0 = true) -> PyData.canLayAll0 xs = true
 | [], _ => by rfl
 | x :: t, h => by
  show (x.canLay0 && PyData.canLayAll0 t) = true
  rw [h x (List.mem_cons_self ..), y9 fun y hy => h y (List.mem_cons_of_mem _ hy)]; rfl
theorem vC {n : Nat} : ∀ {xs : List PyData}, (∀ x ∈ xs, x.depth <= n) -> PyData.depthAll xs <= n
 | [], _ => Nat.zero_le _
 | x :: t, h => by
  show max x.depth (PyData.depthAll t) <= n
  exact Nat.max_le.mpr ⟨h x (List.mem_cons_self ..), vC fun y hy => h y (List.mem_cons_of_mem _ hy)⟩
def Sh (n : Nat) (d : PyData) : Prop := d.canLay0 = true /\ d.depth <= n
theorem m6 {n : Nat} {xs : List PyData} (h : ∀ x ∈ xs, Sh n x) : Sh (n + 1) (.tuple xs) := ⟨y9 fun x hx => (h x hx).1, by
 have := vC fun x hx => (h x hx).2
 show PyData.depthAll xs + 1 <= n + 1
 omega⟩
theorem aCE (n : Nat) (i : Int) : Sh n (.int i) := ⟨rfl, Nat.zero_le _⟩
theorem aCF (n : Nat) {x : Str} (h : PyData.strOk x = true) : Sh n (.str x) := ⟨h, Nat.zero_le _⟩
theorem aFR (n : Nat) {t : Tn} (h : t.ok) : Sh n t.d := by
 cases t with
 | n i => exact aCE n i
 | w x => exact aCF n h
theorem Sh.shaped {n : Nat} {d : PyData} (h : Sh n d) (hn : n <= 64) : SeqAt.shaped d = true := by
 show (d.canLay0 && decide (d.depth <= 64)) = true
 rw [h.1, decide_eq_true (Nat.le_trans h.2 hn)]; rfl
section
variable {K : Frag} {H : Hp} {p q : Addr} {xs ys : List V} {o : HO}
inductive NoL : PyData -> Prop where
 | int (i : Int) : NoL (.int i)
 | str (i : Str) : NoL (.str i)
 | tup {ds : List PyData} (h : ∀ d ∈ ds, NoL d) : NoL (.tuple ds)
end
section
variable {K : Frag} {H : Hp}
theorem cells_of : ∀ {xs : List V} {cs : List (Int × Int)}, DatVs K H xs (cs.map dS) -> CellsAt K H xs cs
 | xs, [], h => by obtain rfl := h.nil_of; exact .nil
 | xs, c :: cs, h => by
  obtain ⟨x, t, rfl, h1, h2⟩ := h.cons_of
  obtain ⟨a, ys, rfl, h3, h4⟩ := h1.tup_of
  obtain ⟨y0, t0, rfl, h5, h6⟩ := h4.cons_of
  obtain ⟨y1, t1, rfl, h7, h8⟩ := h6.cons_of
  obtain rfl := h8.nil_of
  obtain rfl := h5.int_of
  obtain rfl := h7.int_of
  exact .cons (.inr h3) (cells_of h2)
end
section
variable {K : Frag} {h : Heap} {mg : Str -> Option Value}
theorem aD4 {x : Str} {st : Stmt} {ps : List Str} {f : Addr} {oc : Value} {od an : Option Addr} {osl : Array (Option Value)} {kV doc pm cdv ct : Value} (X : K.In h) (G : h.Ns mainGlobals mg)
  (a : PySem.W.nsIn K mainGlobals x = some (some (.ref f))) (l : K.lookup f = some ⟨oc, od, .func (PySem.W.fnOf x x (fX st) (c7 st) (aL st) .none kV doc pm an cdv ct), osl⟩)
  (c : PySem.W.codeIn K cdv x = true) (k : PySem.W.keepIn K (.ref f) = true)
  (b : ∀ (kV doc pm : Value) (an : Option Addr) (cdv ct : Value) (us : List Value), us.length = ps.length -> bindArgs (PySem.W.fnOf x x (fX st) (c7 st) (aL st) .none kV doc pm an cdv ct) ⟨us, []⟩ = pure (ps.zip us)) : DefAt K mg x st ps := by
 have F := aB7 (st := st) l c k
 exact ⟨f, _, F, F.binds b, PySem.W.mg_of X G a⟩
end
section
variable {K : Frag} {h : Heap} {mg : Str -> Option Value}
theorem aCG {W N : Addr} {bm bs sub : List Value} {nm q : Str} {hd ab : Bool} {sn : List Str} {col : Option Bool} {dd : Option Addr} {k0 k1 k2 k3 k5 : Option Value} {newId : String} (l : K.lookup W = some (excClassObj nm q W N bs bm hd sn sub ab col dd k0 k1 k2 k3 k5 newId)) (b : bm.contains (.type "BaseException") = true) : SX.ExcAny K W bm := ⟨⟨_, _, _, _, _, _, _, _, _, _, _, _, _, _, _, _, l⟩, b⟩
theorem aGP {W C N : Addr} {bs sub : List Value} {nm q : Str} {ab : Bool} {sn : List Str} {col : Option Bool} {dd : Option Addr} {k0 k1 k2 k3 k5 : Option Value} (l : K.lookup C = some (excClassObj nm q C N bs (.ref W :: SX.g8) true sn sub ab col dd k0 k1 k2 k3 k5 "ValueError.__new__"))
 (sa : PySem.W.findIn K (.ref C) "__setattr__" = some (some (.builtin "object.__setattr__"))) (ga : PySem.W.findIn K (.ref C) "__getattribute__" = some (some (.builtin "BaseException.__getattribute__"))) (gh : PySem.W.findIn K (.ref C) "__getattr__" = some none) (cl : PySem.W.findIn K (.ref C) "__class__" = some (some (.builtin "object.__class__")))
 (clg : PySem.W.specialIn K (.builtin "object.__class__") "__get__" = some (some (.builtin "getset_descriptor.__get__"))) (clt : PySem.W.takesIn K (.builtin "object.__class__") = some true) (kp : PySem.W.keepIn K (.ref C) = true) : SX.ExcC K W C := ⟨⟨_, _, _, _, _, _, _, _, _, _, _, _, _, _, l⟩, sa, ga, gh, cl, clg, clt, kp⟩
theorem aGQ {t : Value} {C : Addr} {cd : ClassData} {b : Bool} (h0 : (t == Value.ref C) = false) (h1 : PySem.W.clsIn K C = some cd) (h2 : PySem.W.typeIn K (.ref C) = some (.type "type")) (h3 : PySem.W.subIn K t (.ref C) = some b) : PySem.W.kitOne K t (.ref C) = some b := by
 unfold PySem.W.kitOne
 rw [h0, if_neg (by decide)]
 unfold PySem.W.kitCls
 simp only [h1, h2]
 rw [if_pos (by rfl)]
 exact h3
theorem aJI {t : Value} {T : String} {b : Bool} (h0 : (t == Value.type T) = false) (h1 : PySem.W.kitMeta T = true) (h3 : PySem.W.subIn K t (.type T) = some b) : PySem.W.kitOne K t (.type T) = some b := by
 unfold PySem.W.kitOne
 rw [h0, if_neg (by decide)]
 unfold PySem.W.kitCls
 show (if PySem.W.kitMeta T = true then _ else _) = _
 rw [if_pos h1]
 exact h3
theorem aD5 {C : Addr} : PySem.W.kitOne K (.ref C) (.ref C) = some true := by
 unfold PySem.W.kitOne
 rw [if_pos (by simp)]
end
end Mc
namespace Mc
open PySem L2 PyProof.Rows
def dG (n c : Nat) : Bool := decide (97 <= c /\ c < 97 + n)
theorem aGR {n : Nat} (h1 : 1 <= n) (h2 : n <= 3) : (Txt.slice "abc" none (some (n : Int))).cps.toList = [97, 98, 99].take n := by
 obtain rfl | rfl | rfl : n = 1 \/ n = 2 \/ n = 3 := by omega
 all_goals decide +kernel
theorem aMT {n c : Nat} (h1 : 1 <= n) (h2 : n <= 3) : dG n c = true ↔ ∃ i : Nat, (([97, 98, 99] : List Nat).take n)[i]? = some c := by
 unfold dG
 rw [decide_eq_true_iff]
 constructor
 ·intro h
  refine ⟨c - 97, ?_⟩
  obtain rfl | rfl | rfl : n = 1 \/ n = 2 \/ n = 3 := by omega
  ·obtain rfl : c = 97 := by omega
   rfl
  ·obtain rfl | rfl : c = 97 \/ c = 98 := by omega
   all_goals rfl
  ·obtain rfl | rfl | rfl : c = 97 \/ c = 98 \/ c = 99 := by omega
   all_goals rfl
 ·rintro ⟨i, e⟩
  obtain ⟨hi, he⟩ := List.getElem?_eq_some_iff.mp e
  have hm := List.getElem_mem hi
  rw [he] at hm
  obtain rfl | rfl | rfl : n = 1 \/ n = 2 \/ n = 3 := by omega
  all_goals
   simp at hm
   omega
theorem aCH {c : Nat} (h : dG 3 c = true) : ∃ r, Builtin.Str.occurrences "abc" ⟨#[c]⟩ 0 ("abc" : Str).length 1 = (c - 97) :: r := by
 have h := of_decide_eq_true h
 refine ⟨[], ?_⟩
 obtain rfl | rfl | rfl : c = 97 \/ c = 98 \/ c = 99 := by omega
 all_goals decide +kernel
end Mc
namespace L2
open PySem PySem.Spec PyProof.Rows
theorem aFS {P : Program} {w : World} {k : Key} {u : Value} (r : a5 (kV k) u) : (c6 P w).is k u = true := by
 cases k with
 | inl i => obtain ⟨t, e⟩ := (show ∃ t, u = Value.int i t from r); subst e; exact yM P w i t
 | inr x => obtain ⟨t, e⟩ := (show ∃ t, u = Value.str x t from r); subst e; exact yN P w x t
section
variable {X : Cx} {pins : List (Addr × Obj)} {σ : St} {H : Hp} {s : Shared} {a : Addr} {y v : V} {u r : Value} {o : Option V} {A : Around} {E : Value -> Shared -> Prop}
theorem Inv.big (I : Inv X pins σ H s) : sysModules < s.heap.objs.size := by
 have h : mainGlobals < s.heap.objs.size := (I.mod.glob.keeps I.bk).lt
 exact Nat.lt_trans (by decide) h
theorem qA {h' : Heap} {t' : Nat} {ob : HO} (I : Inv X pins σ H s) (mu : Mut (H a)) (hs : Heap.SameBut a s.heap h') (he : ∃ q, h'.get? a = some q) (new : bZ X.prog X.w (upd H a ob) h' a ob) :
  Inv X pins σ (upd H a ob) { s with heap := h', toks := t' } :=
 I.write (x := a) (e := a) mu (.inl rfl) (fun b q hb z => (hs.2 b hb).trans z) he new
end
def aJJ (i : Expr) : Prop := ∀ ov iv, subscripted i false ov iv = operate [ov, iv] (getItem ov iv)
theorem aGS {prog : Program} {w : World} {A : Around} {E : Value -> Shared -> Prop} {s : Shared} {env : Env} {value slice : Expr} {pos : Pos} {T id : String} {Q : Value -> Shared -> Prop}
  (hl : typeLookup (.type T) "__getitem__" = pure (some (.builtin id))) (hs : aJJ slice)
  (h : wpAny (model prog w) A (eval value env) (fun o s₁ => wpAny (model prog w) A (eval slice env) (fun i s₂ => s₂.TypeIs o T /\ wpAny (model prog w) A (getItem o i) Q E s₂) E s₁) E s) :
  wpAny (model prog w) A (eval (.Subscript value slice pos) env) Q E s := by
 refine Subscript_ (wpAny_mono h (fun o s₁ h₁ => wpAny_mono h₁ (fun i s₂ h₂ => ?_) fun _ _ x => x) fun _ _ x => x)
 obtain ⟨hT, h₂⟩ := h₂
 unfold subscriptTail
 refine wpAny_bind ?_
 rw [getitemInPython_of_ne hT.not_modules]
 refine wpAny_bind (wpAny_specialOf hT hl ?_)
 have fin : wpAny (model prog w) A (subscripted slice false o i) (fun r s₃ => wpAny (model prog w) A (letTemporaryGo value o r >>= fun _ => pure r) Q E s₃) E s₂ := by
  rw [hs o i]
  exact wpAny_operating (wpAny_mono h₂ (fun r s₃ h₃ => wpAny_bind (wpAny_letTemporaryGo (wpAny_pure h₃))) fun _ _ x => x)
 first
  | exact wpAny_pure (wpAny_bind fin)
  | exact wpAny_bind (wpAny_pure (wpAny_bind fin))
  | exact wpAny_bind fin
structure M1 (X : Cx) (o : Expr) (m : Str) (apos : Pos) (e : Expr) (cpos : Pos) : Prop where
 base : attributeBase o m X.env (eval o X.env) = eval o X.env
 few : ((backTo cpos (starEach [e] X.env)).all (fun x => !x.1) && (backToKw cpos (keywordEach [] X.env)).all (fun x => x.1.isSome)
  && decide (([e] : List Expr).length + ([] : List Keyword).length + (if ([] : List Keyword).isEmpty then 0 else 1) < 30)) = true
 line : (apos.endLine == cpos.line) = true
 trees : backTo cpos (starEach [e] X.env) = [(false, eval e X.env)]
structure M2 (X : Cx) (o : Expr) (m : Str) (apos : Pos) (e f : Expr) (cpos : Pos) : Prop where
 base : attributeBase o m X.env (eval o X.env) = eval o X.env
 few : ((backTo cpos (starEach [e, f] X.env)).all (fun x => !x.1) && (backToKw cpos (keywordEach [] X.env)).all (fun x => x.1.isSome)
  && decide (([e, f] : List Expr).length + ([] : List Keyword).length + (if ([] : List Keyword).isEmpty then 0 else 1) < 30)) = true
 line : (apos.endLine == cpos.line) = true
 trees : backTo cpos (starEach [e, f] X.env) = [(false, eval e X.env), (false, eval f X.env)]
end L2
namespace L2
open PySem PySem.Spec PyProof.Rows
end L2
namespace L2
open PySem PySem.Spec PyProof.Rows
end L2
namespace Mc
open PySem L2 PyProof.Rows
def Tn.good (n : Int) : Tn -> Prop
 | .n i => 0 <= i /\ i < n
 | .w x => x = "by" \/ x = "out"
def j4 (n : Int) (c : Int × Int) : Prop := 0 <= c.1 /\ c.1 < n /\ (c.2 = 1 \/ c.2 = -1)
def Rw.good (n : Int) (r : Rw) : Prop := r.l.good n /\ r.r.good n /\ ∀ c ∈ r.c, j4 n c
theorem Tn.good.ok {n : Int} {t : Tn} (h : t.good n) : t.ok := by
 cases t with
 | n i => trivial
 | w x =>
  rcases h with rfl | rfl
  · exact (show PyData.strOk _ = true by decide +kernel)
  · exact (show PyData.strOk _ = true by decide +kernel)
theorem Rw.good.ok {n : Int} {r : Rw} (h : r.good n) : r.ok := ⟨h.1.ok, h.2.1.ok⟩
structure Mach (rs : List Rw) (sg : Nat) : Prop where
 len : 1 <= rs.length
 len2 : rs.length <= 1000
 sg1 : 1 <= sg
 sg3 : sg <= 3
 row : ∀ r ∈ rs, r.good rs.length /\ r.c.length = sg
def bI (sg : Nat) (z : List Nat) : Prop := z.length <= 1000 /\ ∀ c ∈ z, dG sg c = true
def aO (rs : List Rw) (q : Int) : Rw := rs.getD q.toNat ⟨.n 0, [], .n 0⟩
def a8 (rs : List Rw) (z : List Nat) (st : Int × Int) : Tn × Int :=
 if st.1 = 0 then ((aO rs st.2).l, 1) else if st.1 = (z.length : Int) + 1 then ((aO rs st.2).r, -1) else
  (.n ((aO rs st.2).c.getD (z.getD (st.1.toNat - 1) 97 - 97) (0, 0)).1, ((aO rs st.2).c.getD (z.getD (st.1.toNat - 1) 97 - 97) (0, 0)).2)
def dM (rs : List Rw) (z : List Nat) (st : Int × Int) : Option (Int × Int) :=
 match (a8 rs z st).1 with
 | .w _ => none
 | .n q => some (st.1 + (a8 rs z st).2, q)
def gX (rs : List Rw) (z : List Nat) (st : Int × Int) : Prop := 0 <= st.1 /\ st.1 <= (z.length : Int) + 1 /\ 0 <= st.2 /\ st.2 < (rs.length : Int)
theorem dH {rs : List Rw} {q : Int} (h0 : 0 <= q) (h1 : q < rs.length) : rs[q.toNat]? = some (aO rs q) := by
 have h : q.toNat < rs.length := by omega
 unfold aO
 rw [List.getD_eq_getElem?_getD, List.getElem?_eq_getElem h]; rfl
theorem uB {rs : List Rw} {sg : Nat} {z : List Nat} {st : Int × Int} (S : bI sg z) (V : gX rs z st) (h0 : st.1 ≠ 0) (h1 : st.1 ≠ (z.length : Int) + 1) : ∃ c, z[st.1.toNat - 1]? = some c /\ dG sg c = true /\ z.getD (st.1.toNat - 1) 97 = c := by
 obtain ⟨a, b, _, _⟩ := V
 have hl : st.1.toNat - 1 < z.length := by omega
 refine ⟨z[st.1.toNat - 1], by simp [hl], S.2 _ (List.getElem_mem hl), by rw [List.getD_eq_getElem?_getD, List.getElem?_eq_getElem hl]; rfl⟩
theorem rO {rs : List Rw} {sg : Nat} {z : List Nat} {st : Int × Int} (M : Mach rs sg) (S : bI sg z) (V : gX rs z st) (h0 : st.1 ≠ 0) (h1 : st.1 ≠ (z.length : Int) + 1) :
  ∃ c, (aO rs st.2).c[z.getD (st.1.toNat - 1) 97 - 97]? = some c /\ (aO rs st.2).c.getD (z.getD (st.1.toNat - 1) 97 - 97) (0, 0) = c /\ j4 rs.length c := by
 obtain ⟨c, _, hs, e⟩ := uB S V h0 h1
 rw [e]
 have hs := of_decide_eq_true hs
 have hr := M.row _ (List.mem_of_getElem? (dH V.2.2.1 V.2.2.2))
 have hl : c - 97 < (aO rs st.2).c.length := by rw [hr.2]; omega
 refine ⟨(aO rs st.2).c[c - 97], by simp [hl], by rw [List.getD_eq_getElem?_getD, List.getElem?_eq_getElem hl]; rfl, hr.1.2.2 _ (List.getElem_mem hl)⟩
theorem sX {rs : List Rw} {sg : Nat} {z : List Nat} {st st' : Int × Int} (M : Mach rs sg) (S : bI sg z) (V : gX rs z st) (h : dM rs z st = some st') : gX rs z st' := by
 have hr := M.row _ (List.mem_of_getElem? (dH V.2.2.1 V.2.2.2))
 obtain ⟨a, b, c, d⟩ := id V
 unfold dM a8 at h
 by_cases h0 : st.1 = 0
 ·simp only [if_pos h0] at h
  have g := hr.1.1
  cases e : (aO rs st.2).l with
  | w x => rw [e] at h; cases h
  | n q =>
   rw [e] at h g
   cases h
   exact ⟨by show 0 <= st.1 + 1; omega, by show st.1 + 1 <= _; omega, g.1, g.2⟩
 ·by_cases h1 : st.1 = (z.length : Int) + 1
  ·simp only [if_neg h0, if_pos h1] at h
   have g := hr.1.2.1
   cases e : (aO rs st.2).r with
   | w x => rw [e] at h; cases h
   | n q =>
    rw [e] at h g
    cases h
    exact ⟨by show 0 <= st.1 + -1; omega, by show st.1 + -1 <= _; omega, g.1, g.2⟩
  ·obtain ⟨cc, _, e, g⟩ := rO M S V h0 h1
   simp only [if_neg h0, if_neg h1] at h
   rw [e] at h
   cases h
   obtain ⟨g1, g2, g3⟩ := g
   refine ⟨?_, ?_, g1, g2⟩
   ·show 0 <= st.1 + cc.2; rcases g3 with g3 | g3 <;> omega
   ·show st.1 + cc.2 <= _; rcases g3 with g3 | g3 <;> omega
theorem o6 : ∀ (N : Nat) (l : List Nat), l.Nodup -> (∀ x ∈ l, x < N) -> l.length <= N
 | 0, l, _, h => by
  cases l with
  | nil => exact Nat.le_refl _
  | cons a t => exact absurd (h a (by simp)) (by omega)
 | N + 1, l, hn, h => by
  have ih := o6 N (l.erase N) (hn.erase N) (fun x hx => by
   have := (hn.mem_erase_iff).mp hx
   have h2 := h x this.2
   omega)
  have := List.length_erase (a := N) (l := l)
  split at this <;> omega
theorem nV {rs : List Rw} {z : List Nat} {l : List (Int × Int)} (hn : l.Nodup) (hv : ∀ st ∈ l, gX rs z st) : l.length <= (z.length + 2) * rs.length := by
 have h := o6 ((z.length + 2) * rs.length) (l.map fun st => st.1.toNat * rs.length + st.2.toNat) ?_ ?_
 ·rw [List.length_map] at h; exact h
 ·unfold List.Nodup
  rw [List.pairwise_map]
  refine List.Pairwise.imp_of_mem (fun {a b} ha hb hab e => hab ?_) hn
  obtain ⟨a1, a2, a3, a4⟩ := hv a ha
  obtain ⟨b1, b2, b3, b4⟩ := hv b hb
  have hm : 0 < rs.length := by omega
  have e1 : (a.1.toNat * rs.length + a.2.toNat) / rs.length = (b.1.toNat * rs.length + b.2.toNat) / rs.length := by rw [e]
  have e2 : (a.1.toNat * rs.length + a.2.toNat) % rs.length = (b.1.toNat * rs.length + b.2.toNat) % rs.length := by rw [e]
  have ha2 : a.2.toNat < rs.length := by omega
  have hb2 : b.2.toNat < rs.length := by omega
  rw [Nat.mul_comm, Nat.mul_add_div hm, Nat.mul_comm b.1.toNat, Nat.mul_add_div hm, Nat.div_eq_of_lt ha2, Nat.div_eq_of_lt hb2] at e1
  rw [Nat.mul_comm, Nat.mul_add_mod, Nat.mul_comm b.1.toNat, Nat.mul_add_mod, Nat.mod_eq_of_lt ha2, Nat.mod_eq_of_lt hb2] at e2
  exact Prod.ext (by omega) (by omega)
 ·intro x hx
  obtain ⟨st, hst, rfl⟩ := List.mem_map.mp hx
  obtain ⟨a1, a2, a3, a4⟩ := hv st hst
  have h1 : st.1.toNat + 1 <= z.length + 2 := by omega
  have h2 : st.2.toNat < rs.length := by omega
  calc st.1.toNat * rs.length + st.2.toNat < st.1.toNat * rs.length + rs.length := by omega
   _ = (st.1.toNat + 1) * rs.length := by rw [Nat.add_mul]; omega
   _ <= (z.length + 2) * rs.length := Nat.mul_le_mul_right _ h1
def qB (rs : List Rw) (z : List Nat) : Nat -> List (Int × Int) -> Int × Int -> List (Int × Int)
 | 0, ps, st => ps ++ [st]
 | k + 1, ps, st => if st ∈ ps then ps ++ [st] else match dM rs z st with
  | none => ps ++ [st]
  | some st' => qB rs z k (ps ++ [st]) st'
def jP (rs : List Rw) (z : List Nat) : Nat := (z.length + 2) * rs.length
def lD (rs : List Rw) (z : List Nat) : List (Int × Int) := qB rs z (jP rs z) [] (0, 0)
structure Way (rs : List Rw) (z : List Nat) (ps : List (Int × Int)) (st : Int × Int) (k : Nat) : Prop where
 nd : ps.Nodup
 val : ∀ s ∈ ps ++ [st], gX rs z s
 num : ps.length + k = jP rs z
 res : qB rs z k ps st = lD rs z
theorem Way.start {rs : List Rw} {sg : Nat} {z : List Nat} (M : Mach rs sg) : Way rs z [] (0, 0) (jP rs z) where
 nd := List.nodup_nil
 val := fun s hs => by
  obtain rfl : s = (0, 0) := by simpa using hs
  have := M.len
  exact ⟨Int.le_refl _, by show (0 : Int) <= _; omega, Int.le_refl _, by show (0 : Int) < _; omega⟩
 num := by simp
 res := rfl
theorem Way.here {rs : List Rw} {z : List Nat} {ps : List (Int × Int)} {st : Int × Int} {k : Nat} (W : Way rs z ps st k) : gX rs z st := W.val st (by simp)
theorem Way.stop {rs : List Rw} {z : List Nat} {ps : List (Int × Int)} {st : Int × Int} {k : Nat} (W : Way rs z ps st k) (h : st ∈ ps) : ps ++ [st] = lD rs z := by
 rw [<- W.res]
 cases k with
 | zero => rfl
 | succ k => unfold qB; rw [if_pos h]
theorem Way.more {rs : List Rw} {z : List Nat} {ps : List (Int × Int)} {st : Int × Int} {k : Nat} (W : Way rs z ps st k) (h : st ∉ ps) : ∃ j, k = j + 1 := by
 have hn : (ps ++ [st]).Nodup := by
  rw [List.nodup_append]
  exact ⟨W.nd, by simp, fun a ha b hb e => by rw [List.mem_singleton.mp hb] at e; exact h (e ▸ ha)⟩
 have := nV hn W.val
 rw [List.length_append] at this
 have hk := W.num
 unfold jP at hk
 simp only [List.length_cons, List.length_nil] at this
 exact ⟨k - 1, by omega⟩
theorem Way.ends {rs : List Rw} {z : List Nat} {ps : List (Int × Int)} {st : Int × Int} {k : Nat} (W : Way rs z ps st k) (h : st ∉ ps) (e : dM rs z st = none) : ps ++ [st] = lD rs z := by
 obtain ⟨j, rfl⟩ := W.more h
 rw [<- W.res]
 unfold qB
 rw [if_neg h, e]
theorem Way.next {rs : List Rw} {sg : Nat} {z : List Nat} {ps : List (Int × Int)} {st st' : Int × Int} {k : Nat} (M : Mach rs sg) (S : bI sg z) (W : Way rs z ps st (k + 1)) (h : st ∉ ps) (e : dM rs z st = some st') : Way rs z (ps ++ [st]) st' k where
 nd := by
  rw [List.nodup_append]
  exact ⟨W.nd, by simp, fun a ha b hb e => by rw [List.mem_singleton.mp hb] at e; exact h (e ▸ ha)⟩
 val := fun s hs => by
  rcases List.mem_append.mp hs with q | q
  · exact W.val s q
  · rw [List.mem_singleton.mp q]; exact sX M S W.here e
 num := by rw [List.length_append]; have := W.num; simp; omega
 res := by
  rw [<- W.res]
  conv => rhs; unfold qB
  rw [if_neg h, e]
end Mc
namespace Mc
open PySem L2 PyProof.Rows
def one (c : Nat) : Str := ⟨#[c]⟩
end Mc
namespace Mc
open PySem L2 PyProof.Rows
section
variable {S O : Type}
inductive Ex (st : S -> Option (S ⊕ O)) : Nat -> S -> O -> Prop
 | out {s : S} {o : O} (h : st s = some (.inr o)) : Ex st 0 s o
 | go {s s' : S} {o : O} {n : Nat} (h : st s = some (.inl s')) (t : Ex st n s' o) : Ex st (n + 1) s o
inductive Rc (st : S -> Option (S ⊕ O)) : Nat -> S -> S -> Prop
 | nil {s : S} : Rc st 0 s s
 | cons {s s' s'' : S} {n : Nat} (h : st s = some (.inl s')) (t : Rc st n s' s'') : Rc st (n + 1) s s''
variable {st : S -> Option (S ⊕ O)}
theorem Ex.det {n n' : Nat} {s : S} {o o' : O} (a : Ex st n s o) (b : Ex st n' s o') : n = n' /\ o = o' := by
 induction a generalizing n' o' with
 | out h =>
  cases b with
  | out h' => rw [h] at h'; cases h'; exact ⟨rfl, rfl⟩
  | go h' t => rw [h] at h'; cases h'
 | go h t ih =>
  cases b with
  | out h' => rw [h] at h'; cases h'
  | go h' t' =>
   rw [h] at h'; cases h'
   obtain ⟨e, e'⟩ := ih t'
   exact ⟨by omega, e'⟩
theorem Rc.ex {k n : Nat} {s s' : S} {o : O} (a : Rc st k s s') (b : Ex st n s o) : ∃ n', n = n' + k /\ Ex st n' s' o := by
 induction a generalizing n with
 | nil => exact ⟨n, rfl, b⟩
 | cons h t ih =>
  cases b with
  | out h' => rw [h] at h'; cases h'
  | go h' t' =>
   rw [h] at h'; cases h'
   obtain ⟨n', e, q⟩ := ih t'
   exact ⟨n', by omega, q⟩
theorem Rc.to {k n : Nat} {s s' : S} {o : O} (a : Rc st k s s') (b : Ex st n s' o) : Ex st (n + k) s o := by
 induction a with
 | nil => exact b
 | cons h t ih => exact .go h (ih b)
theorem Rc.snoc {k : Nat} {s s' s'' : S} (a : Rc st k s s') (h : st s' = some (.inl s'')) : Rc st (k + 1) s s'' := by
 induction a with
 | nil => exact .cons h .nil
 | cons h' t ih => exact .cons h' (ih h)
theorem Rc.round {m n : Nat} {s : S} {o : O} (a : Rc st (m + 1) s s) : ¬ Ex st n s o := fun b => by
 obtain ⟨n', e, q⟩ := a.ex b
 have := (b.det q).1
 omega
def Res (st : S -> Option (S ⊕ O)) (s : S) (r : Option O) : Prop := ∀ o, r = some o ↔ ∃ n, Ex st n s o
theorem Res.det {s : S} {r r' : Option O} (a : Res st s r) (b : Res st s r') : r = r' := by
 apply Option.ext
 intro o
 exact (a o).trans (b o).symm
theorem Res.out {s : S} {o : O} (h : st s = some (.inr o)) : Res st s (some o) := fun o' => by
 constructor
 · intro e; cases e; exact ⟨0, .out h⟩
 · rintro ⟨n, q⟩; rw [((Ex.out h).det q).2]
theorem Res.stuck {s : S} (h : st s = none) : Res st s none := fun o' => by
 constructor
 ·intro e; cases e
 ·rintro ⟨n, q⟩
  cases q with
  | out h' => rw [h] at h'; cases h'
  | go h' t => rw [h] at h'; cases h'
theorem Res.step {s s' : S} {r : Option O} (h : st s = some (.inl s')) (a : Res st s' r) : Res st s r := fun o => by
 rw [a o]
 constructor
 ·rintro ⟨n, q⟩; exact ⟨n + 1, .go h q⟩
 ·rintro ⟨n, q⟩
  cases q with
  | out h' => rw [h] at h'; cases h'
  | go h' t => rw [h] at h'; cases h'; exact ⟨_, t⟩
theorem Res.round {s : S} {m : Nat} (a : Rc st (m + 1) s s) : Res st s none := fun o => by
 constructor
 · intro e; cases e
 · rintro ⟨n, q⟩; exact absurd q a.round
open Classical in
def aZ (st : S -> Option (S ⊕ O)) (s : S) : Option O := if h : ∃ o n, Ex st n s o then some h.choose else none
theorem d6 (st : S -> Option (S ⊕ O)) (s : S) : Res st s (aZ st s) := fun o => by
 unfold aZ
 by_cases h : ∃ o n, Ex st n s o
 ·rw [dif_pos h]
  obtain ⟨n, q⟩ := h.choose_spec
  constructor
  · intro e; cases e; exact ⟨n, q⟩
  · rintro ⟨n', q'⟩; rw [(q.det q').2]
 ·rw [dif_neg h]
  constructor
  · intro e; cases e
  · rintro ⟨n, q⟩; exact absurd ⟨o, n, q⟩ h
theorem Res.eq {s : S} {r : Option O} (a : Res st s r) : r = aZ st s := a.det (d6 st s)
theorem iV {S' : Type} {st' : S' -> Option (S' ⊕ O)} {s : S} {s' : S'} (h : ∀ o, (∃ n, Ex st n s o) ↔ ∃ n, Ex st' n s' o) : aZ st s = aZ st' s' :=
 Option.ext fun o => ((d6 st s) o).trans ((h o).trans ((d6 st' s') o).symm)
structure Und2 (st : S -> Option (S ⊕ O)) (s0 : S) (ps : List S) (s : S) : Prop where
 nd : ps.Nodup
 back : ∀ p ∈ ps, ∃ m, Rc st (m + 1) p s
 res : ∀ r, Res st s r -> Res st s0 r
theorem Und2.start {s0 : S} : Und2 st s0 [] s0 := ⟨List.nodup_nil, fun p hp => by simp at hp, fun r h => h⟩
theorem Und2.next {s0 s s' : S} {ps : List S} (U : Und2 st s0 ps s) (hn : s ∉ ps) (h : st s = some (.inl s')) : Und2 st s0 (ps ++ [s]) s' where
 nd := by
  rw [List.nodup_append]
  exact ⟨U.nd, by simp, fun a ha b hb e => by rw [List.mem_singleton.mp hb] at e; exact hn (e ▸ ha)⟩
 back := fun p hp => by
  rcases List.mem_append.mp hp with q | q
  · obtain ⟨m, r⟩ := U.back p q; exact ⟨m + 1, r.snoc h⟩
  · rw [List.mem_singleton.mp q]; exact ⟨0, .cons h .nil⟩
 res := fun r a => U.res r (a.step h)
theorem Und2.met {s0 s : S} {ps : List S} (U : Und2 st s0 ps s) (h : s ∈ ps) : aZ st s0 = none := by
 obtain ⟨m, r⟩ := U.back s h
 exact ((U.res _ (Res.round r)).eq).symm
theorem Und2.outs {s0 s : S} {ps : List S} {o : O} (U : Und2 st s0 ps s) (h : st s = some (.inr o)) : aZ st s0 = some o := ((U.res _ (Res.out h)).eq).symm
end
abbrev Th := Option (Int × Int)
structure Tb where
 f : List Th
 a : List Th
def Tb.at (t : Tb) (w q : Int) : Th := (if w = 1 then t.f else t.a).getD q.toNat none
def sY (m : Nat) : Th -> Prop
 | none => True
 | some (d, q) => (d = 1 \/ d = -1) /\ 0 <= q /\ q < (m : Int)
structure Tb.good (m : Nat) (t : Tb) : Prop where
 lf : t.f.length = m
 la : t.a.length = m
 gf : ∀ x ∈ t.f, sY m x
 ga : ∀ x ∈ t.a, sY m x
theorem Tb.good.at {m : Nat} {t : Tb} (h : t.good m) {w q : Int} (h0 : 0 <= q) (h1 : q < m) : (if w = 1 then t.f else t.a)[q.toNat]? = some (t.at w q) /\ sY m (t.at w q) := by
 have hl : q.toNat < (if w = 1 then t.f else t.a).length := by
  split
  · rw [h.lf]; omega
  · rw [h.la]; omega
 have e : (if w = 1 then t.f else t.a)[q.toNat]? = some (t.at w q) := by
  unfold Tb.at
  rw [List.getD_eq_getElem?_getD, List.getElem?_eq_getElem hl]; rfl
 refine ⟨e, ?_⟩
 have hm := List.mem_of_getElem? e
 split at hm
 ·exact h.gf _ hm
 ·exact h.ga _ hm
def cO (ts : List Tb) (s : Int × Int × Int) : Option ((Int × Int × Int) ⊕ (Int × Int)) :=
 match (ts.getD s.1.toNat ⟨[], []⟩).at s.2.1 s.2.2 with
 | none => none
 | some (w, q) => if 0 <= s.1 + w /\ s.1 + w < (ts.length : Int) then some (.inl (s.1 + w, w, q)) else some (.inr (w, q))
def o7 (m : Nat) (ts : List Tb) : Tb := ⟨(List.range m).map fun q : Nat => aZ (cO ts) (0, 1, (q : Int)), (List.range m).map fun q : Nat => aZ (cO ts) ((ts.length : Int) - 1, -1, (q : Int))⟩
def aD6 (m : Nat) (ts : List Tb) (s : Int × Int × Int) : Prop := 0 <= s.1 /\ s.1 < (ts.length : Int) /\ (s.2.1 = 1 \/ s.2.1 = -1) /\ 0 <= s.2.2 /\ s.2.2 < (m : Int)
theorem aGT {ts : List Tb} {i : Int} (h0 : 0 <= i) (h1 : i < ts.length) : ∃ t, ts[i.toNat]? = some t /\ ts.getD i.toNat ⟨[], []⟩ = t := by
 have hl : i.toNat < ts.length := by omega
 exact ⟨ts[i.toNat], by simp [hl], by rw [List.getD_eq_getElem?_getD, List.getElem?_eq_getElem hl]; rfl⟩
theorem box_step {m : Nat} {ts : List Tb} (hg : ∀ t ∈ ts, t.good m) {s : Int × Int × Int} (V : aD6 m ts s) : (cO ts s = none) \/ (∃ s', cO ts s = some (.inl s') /\ aD6 m ts s') \/ ∃ w q, cO ts s = some (.inr (w, q)) /\ (w = 1 \/ w = -1) /\ 0 <= q /\ q < (m : Int) := by
 obtain ⟨v1, v2, v3, v4, v5⟩ := V
 obtain ⟨t, ht, e⟩ := aGT v1 v2
 have g := ((hg t (List.mem_of_getElem? ht)).at (w := s.2.1) v4 v5).2
 unfold cO
 rw [e]
 cases ha : t.at s.2.1 s.2.2 with
 | none => exact .inl rfl
 | some x =>
  obtain ⟨w, q⟩ := x
  rw [ha] at g
  obtain ⟨g1, g2, g3⟩ := g
  by_cases hi : 0 <= s.1 + w /\ s.1 + w < (ts.length : Int)
  · exact .inr (.inl ⟨(s.1 + w, w, q), by simp only [if_pos hi], hi.1, hi.2, g1, g2, g3⟩)
  · exact .inr (.inr ⟨w, q, by simp only [if_neg hi], g1, g2, g3⟩)
theorem zA {m : Nat} {ts : List Tb} (hg : ∀ t ∈ ts, t.good m) {n : Nat} {s : Int × Int × Int} {o : Int × Int} (V : aD6 m ts s) (h : Ex (cO ts) n s o) : (o.1 = 1 \/ o.1 = -1) /\ 0 <= o.2 /\ o.2 < (m : Int) := by
 induction h with
 | out h =>
  rcases box_step hg V with e | ⟨s', e, _⟩ | ⟨w, q, e, g⟩
  · rw [h] at e; cases e
  · rw [h] at e; cases e
  · rw [h] at e; cases e; exact g
 | go h t ih =>
  rcases box_step hg V with e | ⟨s', e, V'⟩ | ⟨w, q, e, g⟩
  · rw [h] at e; cases e
  · rw [h] at e; cases e; exact ih V'
  · rw [h] at e; cases e
theorem yP {m : Nat} {ts : List Tb} (hg : ∀ t ∈ ts, t.good m) (hl : 1 <= ts.length) : (o7 m ts).good m where
 lf := by unfold o7; simp
 la := by unfold o7; simp
 gf := fun x hx => by
  obtain ⟨q, hq, rfl⟩ := List.mem_map.mp hx
  have hq := List.mem_range.mp hq
  cases e : aZ (cO ts) (0, 1, (q : Int)) with
  | none => trivial
  | some o =>
   obtain ⟨n, h⟩ := ((d6 (cO ts) _) o).mp e
   exact zA hg ⟨by show (0 : Int) <= 0; decide, by show (0 : Int) < _; omega, .inl rfl, by show (0 : Int) <= (q : Int); omega, by show (q : Int) < _; omega⟩ h
 ga := fun x hx => by
  obtain ⟨q, hq, rfl⟩ := List.mem_map.mp hx
  have hq := List.mem_range.mp hq
  cases e : aZ (cO ts) ((ts.length : Int) - 1, -1, (q : Int)) with
  | none => trivial
  | some o =>
   obtain ⟨n, h⟩ := ((d6 (cO ts) _) o).mp e
   exact zA hg ⟨by show (0 : Int) <= (ts.length : Int) - 1; omega, by show (ts.length : Int) - 1 < _; omega, .inr rfl, by show (0 : Int) <= (q : Int); omega, by show (q : Int) < _; omega⟩ h
end Mc
namespace Mc
open PySem L2 PyProof.Rows
theorem aCI {S : Type} (f : S -> Nat) (N : Nat) (l : List S) (hn : l.Nodup) (hf : ∀ s ∈ l, f s < N) (hi : ∀ a ∈ l, ∀ b ∈ l, f a = f b -> a = b) : l.length <= N := by
 have h := o6 N (l.map f) ?_ ?_
 ·rw [List.length_map] at h; exact h
 ·unfold List.Nodup
  rw [List.pairwise_map]
  exact List.Pairwise.imp_of_mem (fun {a b} ha hb hab e => hab (hi a ha b hb e)) hn
 ·intro x hx
  obtain ⟨s, hs, rfl⟩ := List.mem_map.mp hx
  exact hf s hs
def gY (m : Nat) (s : Int × Int) : Prop := (s.1 = 1 \/ s.1 = -1) /\ 0 <= s.2 /\ s.2 < (m : Int)
def f6 (a b : Tb) (s : Int × Int) : Option ((Int × Int) ⊕ (Int × Int)) :=
 match (if s.1 = 1 then b.at 1 s.2 else a.at (-1) s.2) with
 | none => none
 | some (w, q) => if w = -s.1 then some (.inl (w, q)) else some (.inr (w, q))
def gM (s : Int × Int) : Int × Int × Int := ((if s.1 = 1 then 1 else 0), s.1, s.2)
theorem gone_box {a b : Tb} {m : Nat} (ha : a.good m) (hb : b.good m) {s : Int × Int} (V : gY m s) : (f6 a b s = none /\ cO [a, b] (gM s) = none) \/ (∃ s', f6 a b s = some (.inl s') /\ cO [a, b] (gM s) = some (.inl (gM s')) /\ gY m s') \/ ∃ o, f6 a b s = some (.inr o) /\ cO [a, b] (gM s) = some (.inr o) := by
 obtain ⟨w, q⟩ := s
 obtain ⟨v1, v2, v3⟩ := V
 dsimp only at v1 v2 v3
 have e0 : ([a, b].getD (0 : Int).toNat ⟨[], []⟩) = a := rfl
 have e1 : ([a, b].getD (1 : Int).toNat ⟨[], []⟩) = b := rfl
 rcases v1 with rfl | rfl
 ·have g := (hb.at (w := 1) v2 v3).2
  cases h : b.at 1 q with
  | none => exact .inl ⟨by unfold f6; dsimp only; rw [if_pos rfl, h], by unfold cO gM; dsimp only; rw [if_pos rfl, e1, h]⟩
  | some x =>
   obtain ⟨w', q'⟩ := x
   rw [h] at g
   obtain ⟨g1, g2, g3⟩ := g
   rcases g1 with rfl | rfl
   ·refine .inr (.inr ⟨(1, q'), by unfold f6; dsimp only; rw [if_pos rfl, h]; dsimp only; rw [if_neg (by decide)], ?_⟩)
    unfold cO gM; dsimp only; rw [if_pos rfl, e1, h]; dsimp only
    rw [if_neg (by show ¬ (0 <= (1 : Int) + 1 /\ (1 : Int) + 1 < 2); decide)]
   ·refine .inr (.inl ⟨(-1, q'), by unfold f6; dsimp only; rw [if_pos rfl, h]; dsimp only; rw [if_pos rfl], ?_, .inr rfl, g2, g3⟩)
    unfold cO gM; dsimp only; rw [if_pos rfl, e1, h]; dsimp only
    rw [if_pos (by show (0 <= (1 : Int) + -1 /\ (1 : Int) + -1 < 2); decide), if_neg (by decide)]; rfl
 ·have g := (ha.at (w := -1) v2 v3).2
  cases h : a.at (-1) q with
  | none => exact .inl ⟨by unfold f6; dsimp only; rw [if_neg (by decide), h], by unfold cO gM; dsimp only; rw [if_neg (by decide), e0, h]⟩
  | some x =>
   obtain ⟨w', q'⟩ := x
   rw [h] at g
   obtain ⟨g1, g2, g3⟩ := g
   rcases g1 with rfl | rfl
   ·refine .inr (.inl ⟨(1, q'), by unfold f6; dsimp only; rw [if_neg (by decide), h]; dsimp only; rw [if_pos (by decide)], ?_, .inl rfl, g2, g3⟩)
    unfold cO gM; dsimp only; rw [if_neg (by decide), e0, h]; dsimp only
    rw [if_pos (by show (0 <= (0 : Int) + 1 /\ (0 : Int) + 1 < 2); decide), if_pos rfl]; rfl
   ·refine .inr (.inr ⟨(-1, q'), by unfold f6; dsimp only; rw [if_neg (by decide), h]; dsimp only; rw [if_neg (by decide)], ?_⟩)
    unfold cO gM; dsimp only; rw [if_neg (by decide), e0, h]; dsimp only
    rw [if_neg (by show ¬ (0 <= (0 : Int) + -1 /\ (0 : Int) + -1 < 2); decide)]
theorem aD7 {a b : Tb} {m : Nat} (ha : a.good m) (hb : b.good m) {s : Int × Int} (V : gY m s) : aZ (f6 a b) s = aZ (cO [a, b]) (gM s) := by
 refine iV fun o => ⟨?_, ?_⟩
 ·rintro ⟨n, h⟩
  refine ⟨n, ?_⟩
  induction h with
  | out h =>
   rcases gone_box ha hb V with ⟨e, _⟩ | ⟨s', e, _⟩ | ⟨o', e, g⟩
   · rw [h] at e; cases e
   · rw [h] at e; cases e
   · rw [h] at e; cases e; exact .out g
  | go h t ih =>
   rcases gone_box ha hb V with ⟨e, _⟩ | ⟨s', e, g, V'⟩ | ⟨o', e, g⟩
   · rw [h] at e; cases e
   · rw [h] at e; cases e; exact .go g (ih V')
   · rw [h] at e; cases e
 ·rintro ⟨n, h⟩
  refine ⟨n, ?_⟩
  generalize hs : gM s = p at h
  induction h generalizing s with
  | out h =>
   subst hs
   rcases gone_box ha hb V with ⟨_, e⟩ | ⟨s', _, e, _⟩ | ⟨o', g, e⟩
   · rw [h] at e; cases e
   · rw [h] at e; cases e
   · rw [h] at e; cases e; exact .out g
  | go h t ih =>
   subst hs
   rcases gone_box ha hb V with ⟨_, e⟩ | ⟨s', g, e, V'⟩ | ⟨o', _, e⟩
   · rw [h] at e; cases e
   · rw [h] at e; cases e; exact .go g (ih V' rfl)
   · rw [h] at e; cases e
def aAW (a b : Tb) (th : Th) (w : Int) : Th :=
 match th with
 | none => none
 | some (d, q) => if d = w then aZ (f6 a b) (d, q) else some (d, q)
theorem aD8 {S O : Type} {st : S -> Option (S ⊕ O)} {s s' : S} (h : st s = some (.inl s')) : aZ st s = aZ st s' := (((d6 st s').step h).eq).symm
theorem o8 {S O : Type} {st : S -> Option (S ⊕ O)} {s : S} {o : O} (h : st s = some (.inr o)) : aZ st s = some o := ((Res.out h).eq).symm
theorem aAX {S O : Type} {st : S -> Option (S ⊕ O)} {s : S} (h : st s = none) : aZ st s = none := ((Res.stuck h).eq).symm
theorem aCJ {a b : Tb} {m : Nat} (ha : a.good m) (hb : b.good m) {q : Int} (h0 : 0 <= q) (h1 : q < (m : Int)) : aAW a b (a.at 1 q) 1 = aZ (cO [a, b]) (0, 1, q) := by
 have g := (ha.at (w := 1) h0 h1).2
 have e : ([a, b].getD (0 : Int).toNat ⟨[], []⟩) = a := rfl
 cases h : a.at 1 q with
 | none =>
  rw [aAX (by unfold cO; dsimp only; rw [e, h])]; rfl
 | some x =>
  obtain ⟨w, q'⟩ := x
  rw [h] at g
  obtain ⟨g1, g2, g3⟩ := g
  rcases g1 with rfl | rfl
  ·rw [aD8 (s' := (1, 1, q')) (by unfold cO; dsimp only; rw [e, h]; dsimp only; rw [if_pos (by show (0 <= (0 : Int) + 1 /\ (0 : Int) + 1 < 2); decide)]; rfl)]
   show (if (1 : Int) = 1 then aZ (f6 a b) (1, q') else some (1, q')) = _
   rw [if_pos rfl, aD7 ha hb ⟨.inl rfl, g2, g3⟩]; rfl
  ·rw [o8 (o := (-1, q')) (by unfold cO; dsimp only; rw [e, h]; dsimp only; rw [if_neg (by show ¬ (0 <= (0 : Int) + -1 /\ (0 : Int) + -1 < 2); decide)])]
   show (if (-1 : Int) = 1 then aZ (f6 a b) (-1, q') else some (-1, q')) = _
   rw [if_neg (by decide)]
theorem aNG {a b : Tb} {m : Nat} (ha : a.good m) (hb : b.good m) : a.f.map (fun th => aAW a b th 1) = (o7 m [a, b]).f := by
 refine List.ext_getElem? fun i => ?_
 show _ = ((List.range m).map _)[i]?
 rw [List.getElem?_map, List.getElem?_map]
 by_cases hi : i < m
 ·rw [List.getElem?_range hi]
  have := (ha.at (w := 1) (q := (i : Int)) (by omega) (by omega)).1
  rw [if_pos rfl] at this
  rw [show ((i : Int)).toNat = i by omega] at this
  rw [this]
  show some (aAW a b (a.at 1 (i : Int)) 1) = _
  rw [aCJ ha hb (by omega) (by omega)]; rfl
 ·rw [List.getElem?_eq_none (by rw [ha.lf]; omega), List.getElem?_eq_none (by simp; omega)]; rfl
def sZ (m : Nat) : Tb := ⟨(List.range m).map fun q : Nat => some (1, (q : Int)), (List.range m).map fun q : Nat => some (-1, (q : Int))⟩
theorem aAY (m : Nat) : (sZ m).good m where
 lf := by unfold sZ; simp
 la := by unfold sZ; simp
 gf := fun x hx => by
  obtain ⟨q, hq, rfl⟩ := List.mem_map.mp hx
  have := List.mem_range.mp hq
  exact ⟨.inl rfl, by omega, by omega⟩
 ga := fun x hx => by
  obtain ⟨q, hq, rfl⟩ := List.mem_map.mp hx
  have := List.mem_range.mp hq
  exact ⟨.inr rfl, by omega, by omega⟩
end Mc
namespace L2
open PySem PySem.Spec PyProof.Rows
def Its (z : Str) : It := ⟨fun i _ => i < z.cps.size, fun i H x H' => H' = H /\ ∃ c, z.cps[i]? = some c /\ x = .str ⟨#[c]⟩, fun i _ => i = z.cps.size⟩
theorem wP {P : Program} {w : World} {K : Frag} {tg : Expr} (z : Str) (t : Tok) (T : String) (hT : ∀ A : Around, A.handled = none -> ∀ it, Walks P w A it [it] [it] z.cps.size (SignAt z) fun i h => h.IsStrIter it T z t i)
  (hself : ∀ (A : Around) (it : Addr) (i : Nat) (s : Shared) (Q E : Value -> Shared -> Prop), s.heap.IsStrIter it T z t i -> Q (.ref it) s -> wpAny (model P w) A (pyIter (.ref it)) Q E s)
  (hno : ["enumerate", "zip", "dict_itemiterator", "dict_reverseitemiterator", "odict_iterator", "itertools.zip_longest", "itertools.pairwise"].contains T = false) (it : Addr) : Turn P w K tg (Its z) [it] it (fun i h => h.IsStrIter it T z t i) where
 mem := by simp
 obj := fun i h st b hb => by
  obtain rfl : b = it := by simpa using hb
  obtain ⟨o, e, c, d⟩ := st
  exact ⟨o, e, fun v z => by rw [d] at z; cases z⟩
 keep := fun i h h' st k => by
  obtain ⟨o, e, c, d⟩ := st
  exact ⟨o, k it (by simp) o e, c, d⟩
 item := by
  intro X hP hw hK hc i pins s σ H E I hf st hg
  subst hP hw hK
  obtain ⟨f0, f1, f2, f3, f4, f5⟩ := hf it (by simp)
  refine (hT X.A (I.ok.hd hc) it).item i s _ E hg st fun v h' tk hv st' kp => ?_
  obtain ⟨c, tc, hcc, rfl⟩ := hv
  have I1 : Inv X pins σ H { s with heap := h', toks := tk } := I.turned (t' := tk) (it := it) (fun b o hb e => kp b o (by simpa using hb) e) f0 f1 f3 f4 f5
  obtain ⟨o, e, cc, d⟩ := id st'
  exact ⟨_, rfl, v6 (s := { s with heap := h', toks := tk }) e cc d hno ⟨.str ⟨#[c]⟩, H, I1, ⟨_, rfl⟩, ⟨rfl, c, hcc, rfl⟩, st', fun b hb => (hf b hb).1⟩⟩
 done := by
  intro X hP hw hK hc i pins s σ H E I hf st hg
  subst hP hw hK
  obtain ⟨f0, f1, f2, f3, f4, f5⟩ := hf it (by simp)
  have hg : i = z.cps.size := hg
  subst hg
  exact (hT X.A (I.ok.hd hc) it).done s _ E st fun h' tk kp => ⟨rfl, I.turned (t' := tk) (it := it) (fun b o hb e => kp b o (by simpa using hb) e) f0 f1 f3 f4 f5⟩
 self := fun A i s Q E st h => hself A it i s Q E st h
def aNH (te : TE) : TI := fun σ H R => te σ H fun x H1 => ∃ z, x = .str z /\ R (Its z) H1
theorem aCK {X : Cx} {tg l : Expr} {tl : TE} (hl : PE X l tl) : PI X tg l (aNH tl) := by
 intro pins s σ H R I h
 refine thn (hl pins s σ H _ I h) fun v s1 ⟨x, H1, I1, r1, q1⟩ => ?_
 obtain ⟨z, e, q⟩ := q1
 subst e
 obtain ⟨t, rfl⟩ := r1
 refine wpAny_pyIter_strU ?_
 have I2 : Inv X pins σ H1 { s1 with heap := s1.heap.push { cls := .type (strIterType z), data := .fields #[.str z t, .int 0 0] } } := I1.kept (t' := s1.toks) fun b o e => Heap.get?_push_of_some _ e
 have st : (s1.heap.push { cls := .type (strIterType z), data := .fields #[.str z t, .int 0 0] }).IsStrIter s1.heap.objs.size (strIterType z) z t 0 := ⟨_, Heap.get?_push_size _ rfl, rfl, rfl⟩
 have fin : ∀ b ∈ [s1.heap.objs.size], j0 X pins H1 b := fun b hb => by
  obtain rfl := List.mem_singleton.mp hb
  exact I1.fpOk (Nat.le_refl _) (I1.hok.fresh (Nat.le_refl _))
 by_cases ha : (z.cps.all fun x => decide (x < 128)) = true
 ·have eT : strIterType z = "str_ascii_iterator" := by unfold strIterType; rw [if_pos ha]
  rw [eT] at st I2 ⊢
  exact ⟨s1.heap.objs.size, [s1.heap.objs.size], _, _, H1, rfl, I2, wP z t "str_ascii_iterator" (fun A hA it => Walks.strAscii hA it z t) (fun A it i s Q E st h => wpAny_pyIter_striter_ascii st h) (by decide) _, st, fin, q⟩
 ·have eT : strIterType z = "str_iterator" := by unfold strIterType; rw [if_neg ha]
  rw [eT] at st I2 ⊢
  exact ⟨s1.heap.objs.size, [s1.heap.objs.size], _, _, H1, rfl, I2, wP z t "str_iterator" (fun A hA it => Walks.strWide hA it z t) (fun A it i s Q E st h => wpAny_pyIter_striter_wide st h) (by decide) _, st, fin, q⟩
end L2
namespace L2
open PySem PySem.Spec PyProof.Rows
structure InK (env : Env) (s₀ : Shared) (m cm : Str -> Option Value) (s : Shared) : Prop where
 ic : InCall s₀ env.locals m s
 cell : ∀ n c, env.cells.lookup n = some c -> s.heap.IsCell c (cm n)
 inj : ∀ n n' c, env.cells.lookup n = some c -> env.cells.lookup n' = some c -> n = n'
 ne : ∀ n c, env.cells.lookup n = some c -> c ≠ env.locals
 up : ∀ n c, env.kindOf n = some .cell -> env.cells.lookup n = some c -> env.locals < c
section
variable {M : Model} {A : Around} {E : Value -> Shared -> Prop} {s₀ s : Shared} {m cm : Str -> Option Value} {env : Env}
theorem InK.stL {n : Str} {v : Value} {Q : Unit -> Shared -> Prop} (x : InK env s₀ m cm s) (hk : env.scope.kind = .function) (hl : env.kindOf n = some .local)
  (h : ∀ s', InK env s₀ (fun y => if y = n then some v else m y) cm s' -> Q () s') : wpAny M A (storeName env n v) Q E s := by
 refine wpAny_storeName_local hl x.ic.ns (fun h' hn' hs' => h _ ⟨⟨?_, hn', fun b o e => ?_, x.ic.fresh⟩, fun k c hc => ?_, x.inj, x.ne, x.up⟩) (by rw [hk]; rfl)
 ·obtain ⟨h₁, tk, rfl⟩ := x.ic.same
  exact ⟨h', _, rfl⟩
 ·exact hs'.extBut b o (Nat.ne_of_lt (Nat.lt_of_lt_of_le (Heap.lt_size e) x.ic.fresh)) (x.ic.keep b o e)
 ·exact (x.cell k c hc).sameBut hs' (x.ne k c hc)
theorem InK.stC {n : Str} {c : Addr} {v : Value} {Q : Unit -> Shared -> Prop} (x : InK env s₀ m cm s) (hk : env.scope.kind = .function) (hl : env.kindOf n = some .cell)
  (hc : env.cells.lookup n = some c)
  (h : ∀ s', InK env s₀ m (fun y => if y = n then some v else cm y) s' -> Q () s') : wpAny M A (storeName env n v) Q E s := by
 have hLc := x.up n c hl hc
 refine wpAny_storeName_cell hk hl hc (x.cell n c hc) fun h' hc' hs' => h _ ⟨⟨?_, x.ic.ns.sameBut hs' (Nat.ne_of_lt hLc), fun b o e => ?_, x.ic.fresh⟩, fun k c' hk' => ?_, x.inj, x.ne, x.up⟩
 ·obtain ⟨h₁, tk, rfl⟩ := x.ic.same
  exact ⟨h', _, rfl⟩
 ·exact hs'.extBut b o (Nat.ne_of_lt (Nat.lt_trans (Nat.lt_of_lt_of_le (Heap.lt_size e) x.ic.fresh) hLc)) (x.ic.keep b o e)
 ·by_cases hkn : k = n
  ·subst hkn
   rw [hc] at hk'; cases hk'
   simpa using hc'
  ·rw [if_neg hkn]
   exact (x.cell k c' hk').sameBut hs' fun e => hkn (x.inj k n c' hk' (e ▸ hc))
theorem InK.binds (f : Str × Value -> PUnit -> Sem (ForInStep PUnit)) (hf : ∀ n v u, f (n, v) u = (do storeName env n v; pure (.yield ⟨⟩))) (hk : env.scope.kind = .function) :
  ∀ (binds : List (Str × Value)) (m cm : Str -> Option Value) (s : Shared) (Q : PUnit -> Shared -> Prop), InK env s₀ m cm s ->
   (∀ x ∈ binds, env.kindOf x.1 = some .local \/ (env.kindOf x.1 = some .cell /\ (env.cells.lookup x.1).isSome = true)) ->
   (∀ s', InK env s₀ (bindL env.kindOf binds m) (bindC env.kindOf binds cm) s' -> Q ⟨⟩ s') -> wpAny M A (forIn binds ⟨⟩ f) Q E s
 | [], m, cm, s, Q, x, _, h => by rw [List.forIn_nil]; exact wpAny_pure (h s x)
 | (n, v) :: r, m, cm, s, Q, x, hkind, h => by
  rw [List.forIn_cons, hf]
  have hr : ∀ y ∈ r, env.kindOf y.1 = some .local \/ (env.kindOf y.1 = some .cell /\ (env.cells.lookup y.1).isSome = true) := fun y hy => hkind y (List.mem_cons_of_mem _ hy)
  rcases hkind (n, v) List.mem_cons_self with hl | ⟨hl, hc⟩
  ·refine wpAny_bind (wpAny_bind (x.stL hk hl fun s' x' => wpAny_pure (InK.binds f hf hk r _ _ s' Q x' hr fun s'' x'' => h s'' ?_)))
   unfold bindL bindC; rw [if_pos hl, if_pos hl]; exact x''
  ·obtain ⟨c, hc⟩ := Option.isSome_iff_exists.mp hc
   have hnl : ¬ env.kindOf n = some .local := by rw [hl]; decide
   refine wpAny_bind (wpAny_bind (x.stC hk hl hc fun s' x' => wpAny_pure (InK.binds f hf hk r _ _ s' Q x' hr fun s'' x'' => h s'' ?_)))
   unfold bindL bindC; rw [if_neg hnl, if_neg hnl]; exact x''
end
theorem jG : ∀ (names : List (Str × NameKind)) (n : Nat) (acc : List (Str × Addr)), cellsFrom n names acc = cellsFrom n names [] ++ acc
 | [], _, _ => rfl
 | (x, k) :: r, n, acc => by
  unfold cellsFrom
  split
  · rw [jG r (n + 1) ((x, n) :: acc), jG r (n + 1) [(x, n)], List.append_assoc]; rfl
  · exact jG r n acc
theorem mE : ∀ (names : List (Str × NameKind)) (n : Nat) {x : Str} {c : Addr}, (x, c) ∈ cellsFrom n names [] -> (x, NameKind.cell) ∈ names
 | [], _, _, _, h => by simp [cellsFrom] at h
 | (y, k) :: r, n, x, c, h => by
  unfold cellsFrom at h
  split at h
  ·rename_i hk
   rw [jG] at h
   rcases List.mem_append.mp h with h | h
   ·exact List.mem_cons_of_mem _ (mE r _ h)
   ·have : (x, c) = (y, n) := by simpa using h
    cases this
    rw [eq_of_beq hk]; exact List.mem_cons_self
  ·exact List.mem_cons_of_mem _ (mE r _ h)
theorem nW {α : Type} {x : Str} : ∀ {l l' : List (Str × α)}, (l ++ l').lookup x = (l.lookup x).or (l'.lookup x)
 | [], l' => by simp
 | (y, v) :: r, l' => by
  rw [List.cons_append, List.lookup_cons, List.lookup_cons]
  cases x == y with
  | true => rfl
  | false => exact nW
theorem aCL {α : Type} {x : Str} {l : List (Str × α)} (h : ∀ v, (x, v) ∉ l) : l.lookup x = none := by
 cases e : l.lookup x with
 | none => rfl
 | some v => exact absurd (PySem.mem_of_lookup e) (h v)
def cE (qual : Str) (scope : Scope) (L f : Addr) (cd : Value) (cl : List (Str × Addr)) : Env := newEnv scope L mainGlobals (cellsFrom (L + 1) scope.names cl) (qual ++ ".<locals>.") (some f) cd none builtinsNs
structure ClAt (h : Heap) (scope : Scope) (cl : List (Str × Addr)) (cm : Str -> Option Value) : Prop where
 cell : ∀ n c, cl.lookup n = some c -> h.IsCell c (cm n)
 inj : ∀ n n' c, cl.lookup n = some c -> cl.lookup n' = some c -> n = n'
 off : ∀ y ∈ scope.names, y.2 = .cell -> cl.lookup y.1 = none
section
variable {M : Model} {A : Around} {E : Value -> Shared -> Prop} {s : Shared}
theorem zB {scope : Scope} {binds : List (Str × Value)} {qual : Str} {f : Addr} {cd : Value} {cl : List (Str × Addr)} {cm : Str -> Option Value} {Q : Env -> Shared -> Prop}
  (hk : scope.kind = .function) (C : ClAt s.heap scope cl cm)
  (hkind : ∀ x ∈ binds, scope.names.lookup x.1 = some .local \/ scope.names.lookup x.1 = some .cell)
  (hQ : ∀ s', InK (cE qual scope s.heap.objs.size f cd cl) s (bindL (cE qual scope s.heap.objs.size f cd cl).kindOf binds fun _ => none) (bindC (cE qual scope s.heap.objs.size f cd cl).kindOf binds fun n => if (cl.lookup n).isSome then cm n else none) s' -> Q (cE qual scope s.heap.objs.size f cd cl) s') :
  wpAny M A (newFunctionEnv scope mainGlobals cl binds (qual ++ ".<locals>.") (some f) cd none builtinsNs) Q E s := by
 simp only [newFunctionEnv, Option.isSome_none, Bool.false_eq_true, if_false]
 refine wpAny_bind (wpAny_alloc ?_)
 refine wpAny_bind (wpAny_layCells _ (fun name kind cells => by cases hkc : kind == NameKind.cell <;> simp [hkc]) _ _ _ _ ?_)
 have ok := cellsFrom_ok scope.names (s.heap.push { cls := .type "frame", data := .dict #[] }) (s.heap.objs.size + 1) [] ⟨fun _ _ hm => (nomatch hm), List.Pairwise.nil⟩ (by rw [Heap.size_push]; exact Nat.le_refl _)
 rw [Heap.size_push] at ok
 rw [show ({ s with heap := s.heap.push { cls := .type "frame", data := .dict #[] } } : Shared).heap.objs.size = s.heap.objs.size + 1 from Heap.size_push ..]
 have keep : ∀ b o, s.heap.get? b = some o -> (pushCells (s.heap.push { cls := .type "frame", data := .dict #[] }) scope.names).get? b = some o := fun b o e => pushCells_keeps _ _ b o (Heap.get?_push_of_some _ e)
 have hcells : (cE qual scope s.heap.objs.size f cd cl).cells = cellsFrom (s.heap.objs.size + 1) scope.names [] ++ cl := jG _ _ _
 have two : ∀ n c, (cE qual scope s.heap.objs.size f cd cl).cells.lookup n = some c -> ((cellsFrom (s.heap.objs.size + 1) scope.names []).lookup n = some c /\ cl.lookup n = none) \/ ((cellsFrom (s.heap.objs.size + 1) scope.names []).lookup n = none /\ cl.lookup n = some c) := fun n c e => by
  rw [hcells, nW] at e
  cases q : (cellsFrom (s.heap.objs.size + 1) scope.names []).lookup n with
  | none => rw [q] at e; exact .inr ⟨rfl, by simpa using e⟩
  | some d =>
   rw [q] at e
   have e' : some d = some c := by simpa using e
   cases e'
   exact .inl ⟨rfl, C.off (n, .cell) (mE _ _ (PySem.mem_of_lookup q)) rfl⟩
 have big : ∀ n c, (cellsFrom (s.heap.objs.size + 1) scope.names []).lookup n = some c -> s.heap.objs.size < c := fun n c e => (ok.empty n c (PySem.mem_of_lookup e)).2
 have small : ∀ n c, cl.lookup n = some c -> c < s.heap.objs.size := fun n c e => (C.cell n c e).lt
 refine wpAny_bind (InK.binds (s₀ := s) (env := cE qual scope s.heap.objs.size f cd cl)
  _ (fun _ _ _ => rfl) hk binds (fun _ => none) (fun n => if (cl.lookup n).isSome then cm n else none) _ _
  ⟨⟨⟨_, _, rfl⟩, (Heap.Ns.new s.heap (.type "frame")).keeps (pushCells_keeps _ _), keep, Nat.le_refl _⟩, fun n c e => ?_, fun n n' c e e' => ?_, fun n c e => ?_, fun n c hc e => ?_⟩
  (fun x hx => ?_) fun s' x => wpAny_pure (hQ s' x))
 ·rcases two n c e with ⟨q, q'⟩ | ⟨q, q'⟩
  ·rw [q']; exact (ok.empty n c (PySem.mem_of_lookup q)).1
  ·rw [q']; exact (C.cell n c q').keeps keep
 ·rcases two n c e with ⟨q, q'⟩ | ⟨q, q'⟩ <;> rcases two n' c e' with ⟨r, r'⟩ | ⟨r, r'⟩
  ·exact name_of_addr ok.apart (PySem.mem_of_lookup q) (PySem.mem_of_lookup r)
  ·exact absurd (big _ _ q) (Nat.not_lt.mpr (Nat.le_of_lt (small _ _ r')))
  ·exact absurd (big _ _ r) (Nat.not_lt.mpr (Nat.le_of_lt (small _ _ q')))
  ·exact C.inj n n' c q' r'
 ·show c ≠ s.heap.objs.size
  rcases two n c e with ⟨q, q'⟩ | ⟨q, q'⟩
  ·exact Nat.ne_of_gt (big _ _ q)
  ·exact Nat.ne_of_lt (small _ _ q')
 ·show s.heap.objs.size < c
  rcases two n c e with ⟨q, q'⟩ | ⟨q, q'⟩
  ·exact big _ _ q
  ·rw [C.off (n, .cell) (PySem.mem_of_lookup hc) rfl] at q'; cases q'
 ·rcases hkind x hx with q | q
  ·exact .inl q
  ·refine .inr ⟨q, ?_⟩
   obtain ⟨c, e⟩ := lT (n := s.heap.objs.size + 1) q
   rw [hcells, nW, e]; rfl
end
end L2
namespace L2
open PySem PySem.Spec PyProof.Rows
def hid (cs : List Addr) (H : Hp) : Hp := fun b => if b ∈ cs then none else H b
def shw (cs : List Addr) (H H' : Hp) : Hp := fun b => if b ∈ cs then H b else H' b
theorem m7 {cs : List Addr} {H : Hp} {b : Addr} (h : b ∈ cs) : hid cs H b = none := if_pos h
theorem bM {cs : List Addr} {H : Hp} {b : Addr} (h : b ∉ cs) : hid cs H b = H b := if_neg h
theorem o9 {cs : List Addr} {H H' : Hp} {b : Addr} (h : b ∈ cs) : shw cs H H' b = H b := if_pos h
theorem dX {cs : List Addr} {H H' : Hp} {b : Addr} (h : b ∉ cs) : shw cs H H' b = H' b := if_neg h
theorem g9 {cs : List Addr} {H : Hp} {b : Addr} (h : H b = none) : hid cs H b = none := by
 by_cases q : b ∈ cs
 · exact m7 q
 · rw [bM q]; exact h
theorem nX {cs : List Addr} {H : Hp} {b : Addr} {o : HO} (h : hid cs H b = some o) : H b = some o /\ b ∉ cs := by
 by_cases q : b ∈ cs
 · rw [m7 q] at h; cases h
 · rw [bM q] at h; exact ⟨h, q⟩
def FnO (f : Addr) (o : Obj) : HO := .ext fun h => h.get? f = some o
def dY (c : Addr) (o : Obj) (v : V) : HO := .frz o (.ext fun h => ∃ u, a5 v u /\ h.IsCell c (some u))
section
variable {P : Program} {w : World} {H : Hp} {h : Heap}
theorem FnO.get {f : Addr} {o : Obj} (x : HOk P w H h) (e : H f = some (FnO f o)) : h.get? f = some o := (x f _ e).1
theorem dY.get {c : Addr} {o : Obj} {v : V} (x : HOk P w H h) (e : H c = some (dY c o v)) : h.get? c = some o /\ ∃ u, a5 v u /\ h.IsCell c (some u) := ⟨(x c _ e).1, (x c _ e).2.1⟩
theorem FnO.ok {f : Addr} {o : Obj} (e : h.get? f = some o) : bZ P w H h f (FnO f o) := ⟨e, ⟨o, e⟩, fun h1 h2 q k => k o q⟩
theorem dY.ok {c : Addr} {o : Obj} {v : V} {u : Value} (r : a5 v u) (e : h.get? c = some o) (hd : o.data = .cell (some u)) : bZ P w H h c (dY c o v) :=
 ⟨e, ⟨u, r, o, e, hd⟩, ⟨o, e⟩, fun h1 h2 ⟨u, r, o, ho, hd⟩ k => ⟨u, r, o, k o ho, hd⟩⟩
end
def Celd (cs : List Addr) (H : Hp) : Prop := ∀ c ∈ cs, ∃ o v, H c = some (dY c o v)
theorem Celd.out {cs : List Addr} {H : Hp} (h : Celd cs H) {b : Addr} {o : HO} (e : H b = some o) (n : ∀ o' v, o ≠ dY b o' v) : b ∉ cs := fun z => by
 obtain ⟨o', v, q⟩ := h b z
 rw [q] at e; cases e
 exact n o' v rfl
theorem HOk.hid {P : Program} {w : World} {H : Hp} {h : Heap} {cs : List Addr} (x : HOk P w H h) (hc : Celd cs H) : HOk P w (hid cs H) h := fun b u e => by
 obtain ⟨e1, _⟩ := nX e
 exact (x b u e1).stay (fun _ _ _ q => q) (fun c q => by rw [bM (hc.out q fun _ v z => nomatch z)]; exact q) (fun c _ q => by rw [bM (hc.out q fun _ v z => nomatch z)]; exact q) fun c _ q => by rw [bM (hc.out q fun _ v z => nomatch z)]; exact q
structure CloScope (N ps fr : List Str) (sc : Scope) : Prop where
 kind : sc.kind = .function
 co : sc.isCoroutine = false
 gen : sc.isGenerator = false
 nd : N.Nodup
 pre : N.take (ps ++ fr).length = ps ++ fr
 par : ∀ x ∈ ps, sc.names.lookup x = some .local \/ sc.names.lookup x = some .cell
 cap : ∀ x ∈ fr, sc.names.lookup x = some .free
 only : ∀ y ∈ sc.names, y.2 = .free -> y.1 ∈ fr
 off : ∀ y ∈ sc.names, y.2 = .cell -> y.1 ∉ fr
structure CapAt (H : Hp) (fr : List Str) (cl : List (Str × Addr)) (vs : List V) : Prop where
 len : vs.length = fr.length
 only : ∀ n c, cl.lookup n = some c -> n ∈ fr
 inj : ∀ n n' c, cl.lookup n = some c -> cl.lookup n' = some c -> n = n'
 at' : ∀ (i : Nat) x v, fr[i]? = some x -> vs[i]? = some v -> ∃ c o, cl.lookup x = some c /\ H c = some (dY c o v)
theorem CapAt.get {H : Hp} {fr : List Str} {cl : List (Str × Addr)} {vs : List V} (a : CapAt H fr cl vs) {n : Str} {c : Addr} (e : cl.lookup n = some c) : ∃ o v, H c = some (dY c o v) := by
 obtain ⟨i, hi, hx⟩ := List.mem_iff_getElem.mp (a.only n c e)
 obtain ⟨c', o, e', q⟩ := a.at' i n (vs[i]'(by rw [a.len]; exact hi)) (by rw [List.getElem?_eq_getElem hi, hx]) (List.getElem?_eq_getElem _)
 rw [e] at e'; cases e'
 exact ⟨_, _, q⟩
def aX (fr : List Str) (cl : List (Str × Addr)) : List Addr := fr.filterMap fun x => cl.lookup x
theorem CapAt.celd {H : Hp} {fr : List Str} {cl : List (Str × Addr)} {vs : List V} (a : CapAt H fr cl vs) : Celd (aX fr cl) H := fun c hc => by
 obtain ⟨x, _, e⟩ := List.mem_filterMap.mp hc
 exact a.get e
theorem CapAt.same {H H' : Hp} {fr : List Str} {cl : List (Str × Addr)} {vs : List V} (a : CapAt H fr cl vs) (s : aK H H') : CapAt H' fr cl vs := ⟨a.len, a.only, a.inj, fun i x v h1 h2 => let ⟨c, o, e, q⟩ := a.at' i x v h1 h2; ⟨c, o, e, s _ _ q⟩⟩
def iF (CX : CXT) (P : Program) (w : World) (K : Frag) (mg : Str -> Option Value) (base : Heap) (N fr : List Str) (qual : Str) (scope : Scope) (f : Addr) (cd : Value) (cl : List (Str × Addr)) (A : Around) (outer : List Env) (s : Shared) (H : Hp) (E : XK) : Cx where
 prog := P
 w := w
 K := K
 mg := mg
 base := base
 A := A.deeper (cE qual scope s.heap.objs.size f cd cl)
 N := N
 s₀ := s
 H₀ := hid (aX fr cl) H
 env := cE qual scope s.heap.objs.size f cd cl
 outer := outer
 stack := cE qual scope s.heap.objs.size f cd cl :: outer
 ex := []
 calm := true
 fn := fun x => (cl.lookup x).isNone
 pn := []
 xe := fun e s' => wpAny (model P w) (A.deeper (cE qual scope s.heap.objs.size f cd cl)) (leaving (cE qual scope s.heap.objs.size f cd cl) e) (fun _ s'' => CX outer H s E e s'') (fun e' s'' => CX outer H s E e' s'') s'
section
variable {CX : CXT} {P : Program} {w : World} {K : Frag} {mg : Str -> Option Value} {base : Heap} {N ps fr : List Str} {qual : Str} {scope : Scope} {f : Addr} {cd : Value} {cl : List (Str × Addr)} {A : Around} {outer : List Env} {s s1 : Shared} {H : Hp} {E : XK} {us : List Value} {vs cvs : List V}
theorem zC {h : Heap} (hok : HOk P w H h) (C : CapAt H fr cl cvs) : ∃ cm : Str -> Option Value, (∀ n c, cl.lookup n = some c -> ∃ v u, (∃ o, H c = some (dY c o v)) /\ a5 v u /\ cm n = some u /\ h.IsCell c (some u)) := by
 have key : ∀ n, ∃ x : Option Value, ∀ c, cl.lookup n = some c -> ∃ v u, (∃ o, H c = some (dY c o v)) /\ a5 v u /\ x = some u /\ h.IsCell c (some u) := fun n => by
  cases e : cl.lookup n with
  | none => exact ⟨none, fun c z => nomatch z⟩
  | some c =>
   obtain ⟨o, v, q⟩ := C.get e
   obtain ⟨_, u, r, z⟩ := dY.get hok q
   exact ⟨some u, fun c' e' => by cases e'; exact ⟨v, u, ⟨o, q⟩, r, rfl, z⟩⟩
 exact ⟨fun n => (key n).choose, fun n c e => (key n).choose_spec c e⟩
theorem nY {n : Str} {L : Nat} : (cE qual scope L f cd cl).cells.lookup n = ((cellsFrom (L + 1) scope.names []).lookup n).or (cl.lookup n) := by
 rw [show (cE qual scope L f cd cl).cells = cellsFrom (L + 1) scope.names [] ++ cl from jG _ _ _, nW]
theorem qD {n : Str} {c : Addr} {L : Nat} (S : CloScope N ps fr scope) (C : CapAt H fr cl cvs) (e : cl.lookup n = some c) : (cE qual scope L f cd cl).cells.lookup n = some c := by
 rw [nY, aCL fun v hv => S.off (n, .cell) (mE _ _ hv) rfl (C.only n c e)]
 simpa using e
theorem s9 {cm : Str -> Option Value} (S : CloScope N ps fr scope) (C : CapAt H fr cl cvs) (hd : A.handled = none) (e0 : Env0 P w K mg base A outer s H) (hl : vs.length = ps.length) (r : bH vs us)
  (hcm : ∀ n c, cl.lookup n = some c -> ∃ v u, (∃ o, H c = some (dY c o v)) /\ a5 v u /\ cm n = some u /\ s.heap.IsCell c (some u))
  (x : InK (cE qual scope s.heap.objs.size f cd cl) s (bindL (cE qual scope s.heap.objs.size f cd cl).kindOf (ps.zip us) fun _ => none) (bindC (cE qual scope s.heap.objs.size f cd cl).kindOf (ps.zip us) fun n => if (cl.lookup n).isSome then cm n else none) s1) :
  Inv (iF CX P w K mg base N fr qual scope f cd cl A outer s H E) [] (start N (vs ++ cvs)) (hid (aX fr cl) H) s1 := by
 have hpl : (ps ++ fr).length <= N.length := by have := congrArg List.length S.pre; rw [List.length_take] at this; omega
 have hvl : (vs ++ cvs).length = (ps ++ fr).length := by rw [List.length_append, List.length_append, hl, C.len]
 obtain ⟨h1, tk, rfl, hk⟩ := x.ic.done
 have noA : ∀ b : Addr, b ∉ (iF CX P w K mg base N fr qual scope f cd cl A outer s H E).ex := fun b z => absurd (show b ∈ ([] : List Addr) from z) (by simp)
 have cab : ∀ y c, cl.lookup y = none -> (cE qual scope s.heap.objs.size f cd cl).cells.lookup y = some c -> s.heap.objs.size < c := fun y c n e => by
  rw [nY, n] at e
  have e' : (cellsFrom (s.heap.objs.size + 1) scope.names []).lookup y = some c := by simpa using e
  have ok := cellsFrom_ok scope.names (s.heap.push { cls := .type "frame", data := .dict #[] }) (s.heap.objs.size + 1) [] ⟨fun _ _ hm => (nomatch hm), List.Pairwise.nil⟩ (by rw [Heap.size_push]; exact Nat.le_refl _)
  rw [Heap.size_push] at ok
  exact (ok.empty y c (PySem.mem_of_lookup e')).2
 refine ⟨⟨e0.mod, S.kind, rfl, rfl, Nat.le_refl _, fun y z c h1 h2 => x.inj y z c h1 h2, fun y hy => ?_, fun y c hf h => ?_, fun _ => hd, Around.frames_deeper e0.frames, .inr ⟨rfl, rfl⟩, fun b z => absurd z (noA b), fun b o e => ⟨(e0.bs b o e).1, g9 (e0.bs b o e).2⟩, e0.bsz, fun b _ _ => noA b, fun b z => absurd z (noA b), e0.funs, fun b hb => g9 (e0.frf b hb)⟩,
  rfl, e0.bare, Un.kept hk, ⟨_, x.ic.ns, fun i y v h1 h2 h3 => ?_⟩, fun y c h => ⟨_, x.cell y c h⟩, g9 (e0.hok.fresh (Nat.le_refl _)), fun y c h => ?_, fun p hp => absurd (show p ∈ ([] : List (Addr × Obj)) from hp) (by simp), (e0.hok.hid C.celd).kept hk, ?_⟩
 ·have hy : scope.names.lookup y = some .cell \/ scope.names.lookup y = some .free := hy
  rcases hy with hy | hy
  ·obtain ⟨c, e⟩ := lT (n := s.heap.objs.size + 1) hy
   exact ⟨c, by show (cE qual scope s.heap.objs.size f cd cl).cells.lookup y = _; rw [nY, e]; rfl⟩
  ·obtain ⟨i, hi, hx⟩ := List.mem_iff_getElem.mp (S.only _ (PySem.mem_of_lookup hy) rfl)
   obtain ⟨c, _, e, _⟩ := C.at' i y (cvs[i]'(by rw [C.len]; exact hi)) (by rw [List.getElem?_eq_getElem hi, hx]) (List.getElem?_eq_getElem _)
   exact ⟨c, qD S C e⟩
 ·have hf : (cl.lookup y).isNone = true := hf
  exact Nat.le_of_lt (cab y c (Option.isNone_iff_eq_none.mp hf) h)
 ·have hi : i < (vs ++ cvs).length := by
   unfold start at h2
   by_cases hi : i < (vs ++ cvs).length
   ·exact hi
   ·rw [List.getElem?_append_right (by simpa using hi)] at h2
    rw [List.getElem?_replicate] at h2
    split at h2 <;> cases h2
  have ha : (vs ++ cvs)[i]? = some v := by
   unfold start at h2
   rw [List.getElem?_append_left (by simpa using hi), List.getElem?_map] at h2
   cases e : (vs ++ cvs)[i]? with
   | none => rw [e] at h2; cases h2
   | some a => rw [e] at h2; cases h2; rfl
  have hp : (ps ++ fr)[i]? = some y := by
   rw [<- S.pre, List.getElem?_take_of_lt (by omega)]; exact h1
  have ndA : (ps ++ fr).Nodup := by rw [<- S.pre]; exact S.nd.sublist (List.take_sublist _ _)
  have ndP : ps.Nodup := (List.nodup_append.mp ndA).1
  by_cases hip : i < ps.length
  ·rw [List.getElem?_append_left (by omega)] at ha
   rw [List.getElem?_append_left hip] at hp
   obtain ⟨u, hu, rv⟩ := r.get ha
   refine ⟨u, rv, ?_⟩
   rcases S.par y (List.mem_of_getElem? hp) with k | k
   ·exact .inl ⟨k, o3 ndP hp hu k⟩
   ·obtain ⟨c, e⟩ := lT (n := s.heap.objs.size + 1) k
    have e' : (cE qual scope s.heap.objs.size f cd cl).cells.lookup y = some c := by rw [nY, e]; rfl
    refine .inr ⟨.inl k, c, e', ?_⟩
    have q := x.cell y c e'
    rw [o4 ndP hp hu (by show scope.names.lookup y ≠ _; rw [k]; decide)] at q
    exact q
  ·rw [List.getElem?_append_right (by omega)] at ha
   rw [List.getElem?_append_right (by omega)] at hp
   rw [hl] at ha
   obtain ⟨c, o, e, q⟩ := C.at' _ y v hp ha
   obtain ⟨_, u2, r2, z2⟩ := dY.get e0.hok q
   have e' := qD (qual := qual) (f := f) (cd := cd) (L := s.heap.objs.size) S C e
   have hfree : scope.names.lookup y = some .free := S.cap y (List.mem_of_getElem? hp)
   refine ⟨u2, r2, .inr ⟨.inr hfree, c, e', ?_⟩⟩
   exact z2.keeps hk
 ·cases e : cl.lookup y with
  | none => exact g9 (e0.hok.fresh (Nat.le_of_lt (cab y c e h)))
  | some c' =>
   have h' := qD (qual := qual) (f := f) (cd := cd) (L := s.heap.objs.size) S C e
   have h : (cE qual scope s.heap.objs.size f cd cl).cells.lookup y = some c := h
   rw [h] at h'; cases h'
   exact m7 (List.mem_filterMap.mpr ⟨y, C.only y c e, e⟩)
 ·unfold start
  show _ = N.length
  rw [List.length_append, List.length_map, List.length_replicate]
  omega
theorem rP {pins : List (Addr × Obj)} {σ : St} {H' : Hp} {s' : Shared} (S : CloScope N ps fr scope) (C : CapAt H fr cl cvs) (e0 : Env0 P w K mg base A outer s H) (J : Inv (iF CX P w K mg base N fr qual scope f cd cl A outer s H E) pins σ H' s') :
  (∀ c ∈ aX fr cl, H' c = none) /\ Un (frs outer) [] H (shw (aX fr cl) H H') s.heap s'.heap /\ HOk P w (shw (aX fr cl) H H') s'.heap := by
 have un : Un (frs outer) [] (hid (aX fr cl) H) H' s.heap s'.heap := J.base
 have fr' : ∀ c ∈ aX fr cl, H' c = none := fun c hc => by
  obtain ⟨x, _, e⟩ := List.mem_filterMap.mp hc
  exact J.freeC x c (qD S C e)
 have out : ∀ b, H b = none -> b ∉ aX fr cl := fun b n z => by
  obtain ⟨o, v, q⟩ := C.celd b z
  rw [n] at q; cases q
 refine ⟨fr', ⟨fun b o e n h1 h2 => un.keep b o e (g9 n) h1 h2, fun b o e n h1 h2 => un.slot b o e (g9 n) h1 h2, fun b o e n h2 => by rw [dX (out b n)]; exact un.free b o e (g9 n) h2, un.there,
  fun b xs q => ?_, fun b o u q => ?_, fun b ps q => ?_⟩, fun b u e => ?_⟩
 ·have hb := C.celd.out q fun _ v z => nomatch z
  rw [dX hb]; exact un.tups b xs (by rw [bM hb]; exact q)
 ·by_cases hb : b ∈ aX fr cl
  ·rw [o9 hb]; exact q
  ·rw [dX hb]; exact un.frzs b o u (by rw [bM hb]; exact q)
 ·have hb := C.celd.out q fun _ v z => nomatch z
  rw [dX hb]; exact un.tbls b ps (by rw [bM hb]; exact q)
 ·by_cases hb : b ∈ aX fr cl
  ·rw [o9 hb] at e
   obtain ⟨o, v, q⟩ := C.celd b hb
   rw [q] at e; cases e
   obtain ⟨ho, u, r, o2, ho2, hd⟩ := dY.get e0.hok q
   rw [ho] at ho2; cases ho2
   exact dY.ok r (un.keep b o ho (m7 hb) (fun z => by have := e0.frf b z; rw [q] at this; cases this) (by simp)) hd
  ·rw [dX hb] at e
   have ne : ∀ c o, H' c = some o -> c ∉ aX fr cl := fun c o q z => by rw [fr' c z] at q; cases q
   exact (J.hok b u e).stay (fun _ _ _ q => q) (fun c q => by rw [dX (ne c _ q)]; exact q) (fun c _ q => by rw [dX (ne c _ q)]; exact q) fun c _ q => by rw [dX (ne c _ q)]; exact q
end
section
variable {P : Program} {w : World} {K : Frag} {mg : Str -> Option Value} {base : Heap} {N ps fr : List Str} {qual : Str} {scope : Scope} {f : Addr} {cd : Value} {cl : List (Str × Addr)} {A : Around} {outer : List Env} {s : Shared} {H : Hp} {E : XK} {cvs : List V}
theorem tD {ev : Value} {s' : Shared} (S : CloScope N ps fr scope) (C : CapAt H fr cl cvs) (e0 : Env0 P w K mg base A outer s H)
  (h : Fly (iF (CXe P w) P w K mg base N fr qual scope f cd cl A outer s H E) (fun c e H' => (∀ a ∈ aX fr cl, H' a = none) -> E c e (shw (aX fr cl) H H')) ev s') : (iF (CXe P w) P w K mg base N fr qual scope f cd cl A outer s H E).xe ev s' := by
 obtain ⟨e, C', od, σ, H', rfl, I, fl, q⟩ := h
 show wpAny (model P w) _ (leaving _ (.ref e)) _ _ s'
 unfold leaving
 have hO : mC (iF (CXe P w) P w K mg base N fr qual scope f cd cl A outer s H E) := ⟨rfl, rfl⟩
 refine wpAny_bind (nU hO I fl fun s2 I2 f2 => m5 I2 f2 fun s3 I3 f3 => ?_)
 obtain ⟨vs, T, a, b, c, _⟩ := f3.tb
 obtain ⟨fr', un, hok⟩ := rP S C e0 I3
 have ne : ∀ c o, H' c = some o -> c ∉ aX fr cl := fun c o q z => by rw [fr' c z] at q; cases q
 refine ⟨e, C', od, _, rfl, I3.os, I3.bare, un, hok, by rw [dX (ne _ _ f3.tr)]; exact f3.tr, ⟨vs, T, a, b, fun t e1 => ⟨?_, (c t e1).2.1⟩⟩, q fr'⟩
 rw [dX]
 ·exact (c t e1).1
 ·intro z
  obtain ⟨o, v, q⟩ := C.celd t z
  exact absurd (Nat.lt_of_lt_of_le (e0.hok.lt q) (c t e1).2.1) (Nat.lt_irrefl _)
end
end L2
namespace L2
open PySem PySem.Spec PyProof.Rows
structure ClSt where
 name : Str
 qual : Str
 params : Arguments
 body : FuncBody
 scope : Scope
def ClSt.fd (S : ClSt) (cl : List (Str × Addr)) (doc pm : Value) (c : Addr) (ct : Value) : FuncData :=
 { name := S.name, qualname := S.qual, params := S.params, body := S.body, scope := S.scope, globals := mainGlobals, closure := cl, defaults := .none, kwdefaults := .none, doc := doc, pyModule := pm, annotations := none, code := .ref c, closureTuple := ct, builtins := builtinsNs }
abbrev ClSt.obj (S : ClSt) (cl : List (Str × Addr)) (doc pm : Value) (c : Addr) (ct : Value) : Obj := { cls := .type "function", data := .func (S.fd cl doc pm c ct) }
section
variable {P : Program} {w : World} {K : Frag} {mg : Str -> Option Value} {base : Heap} {N ps fr : List Str} {S : ClSt} {f c : Addr} {cl : List (Str × Addr)} {A : Around} {outer : List Env} {s : Shared} {H : Hp} {E : XK} {Q : VK} {cvs vs : List V} {us : List Value} {args : Args} {doc pm ct : Value} {k : Nat}
theorem wQ (Sc : CloScope N ps fr S.scope) : ∀ y ∈ ps.zip us, S.scope.names.lookup y.1 = some .local \/ S.scope.names.lookup y.1 = some .cell := fun ⟨n, v⟩ hy => Sc.par n (List.of_mem_zip hy).1
theorem aCM {h : Heap} (hok : HOk P w H h) (Sc : CloScope N ps fr S.scope) (C : CapAt H fr cl cvs) {cm : Str -> Option Value} (hcm : ∀ n c, cl.lookup n = some c -> ∃ v u, (∃ o, H c = some (dY c o v)) /\ a5 v u /\ cm n = some u /\ h.IsCell c (some u)) : ClAt h S.scope cl cm where
 cell := fun n c e => by
  obtain ⟨v, u, _, _, e1, z⟩ := hcm n c e
  rw [e1]; exact z
 inj := C.inj
 off := fun y hy hc => by
  cases e : cl.lookup y.1 with
  | none => rfl
  | some c => exact absurd (C.only _ _ e) (Sc.off y hy hc)
theorem aCN {body : List Stmt} (hb : S.body = .stmts body) (hf : H f = some (FnO f (S.obj cl doc pm c ct))) (hc : H c = some (.cod S.qual)) (Sc : CloScope N ps fr S.scope) (C : CapAt H fr cl cvs) (hr : Room (k + 1) A)
  (e0 : Env0 P w K mg base A outer s H) (hbi : BindsTo s (S.fd cl doc pm c ct) args (ps.zip us)) (r : bH vs us) (hl : vs.length = ps.length)
  (hbody : Room k (A.deeper (cE S.qual S.scope s.heap.objs.size f (.ref c) cl)) -> ∃ t, PSs ((iF (CXe P w) P w K mg base N fr S.qual S.scope f (.ref c) cl A outer s H E).fly fun c e H' => (∀ a ∈ aX fr cl, H' a = none) -> E c e (shw (aX fr cl) H H')) body t /\
   t { nx := fun _ H' => (∀ a ∈ aX fr cl, H' a = none) -> Q .non (shw (aX fr cl) H H'), rt := fun v H' => (∀ a ∈ aX fr cl, H' a = none) -> Q v (shw (aX fr cl) H H') } (start N (vs ++ cvs)) (hid (aX fr cl) H)) :
  codeAny (model P w) A (.call (.ref f) args) (CR (CXe P w) outer P w H s Q E) s := by
 have lim : s.heap.NoLimit := e0.mod.nolimit.keeps fun b o e => (e0.bs b o e).1
 obtain ⟨cm, hcm⟩ := zC e0.hok C
 have hcr : s.heap.CodeRec (.ref c) S.qual := e0.hok c _ hc
 refine codeAny_call_function hr.depth (FnO.get e0.hok hf) rfl Sc.co Sc.gen hb hcr (hbi _ _ _ _ ?_)
 refine zB (cm := cm) Sc.kind (aCM e0.hok Sc C hcm) (wQ Sc) fun s1 x => ?_
 refine ⟨lim.keeps x.ic.keep, codeAny_func ?_⟩
 obtain ⟨t, ht, hq⟩ := hbody (hr.deeper _)
 have I : Inv (iF (CXe P w) P w K mg base N fr S.qual S.scope f (.ref c) cl A outer s H E) [] (start N (vs ++ cvs)) (hid (aX fr cl) H) s1 := s9 Sc C hr.hd e0 hl r hcm x
 have ht' := ht.unfly fun _ _ z => tD Sc C e0 z
 refine wpAny_mono (ht' [] s1 _ _ _ I hq) (fun fl s' hs => ?_) fun e s' hs => hs
 have fin : ∀ {σ' : St} {H' : Hp} {v : V} {u : Value}, Inv (iF (CXe P w) P w K mg base N fr S.qual S.scope f (.ref c) cl A outer s H E) [] σ' H' s' -> a5 v u -> ((∀ a ∈ aX fr cl, H' a = none) -> Q v (shw (aX fr cl) H H')) -> CE outer P w H s Q u s' :=
  fun {σ' H' v u} J rv q => by
   obtain ⟨hn, un, hok⟩ := rP Sc C e0 J
   exact ⟨v, _, J.os, J.bare, un, hok, rv, q hn⟩
 cases fl with
 | ret u =>
  obtain ⟨v, σ', H', J, rv, q⟩ := hs
  exact fin J rv q
 | next =>
  obtain ⟨σ', H', J, q⟩ := hs
  exact fin (v := V.non) (u := Value.none) J rfl q
 | brk =>
  obtain ⟨_, _, _, q⟩ := hs
  exact False.elim q
 | cont =>
  obtain ⟨_, _, _, q⟩ := hs
  exact False.elim q
theorem aD9 {body : Expr} (hb : S.body = .expr body) (hf : H f = some (FnO f (S.obj cl doc pm c ct))) (hc : H c = some (.cod S.qual)) (Sc : CloScope N ps fr S.scope) (C : CapAt H fr cl cvs) (hr : Room (k + 1) A)
  (e0 : Env0 P w K mg base A outer s H) (hbi : BindsTo s (S.fd cl doc pm c ct) args (ps.zip us)) (r : bH vs us) (hl : vs.length = ps.length)
  (hbody : Room k (A.deeper (cE S.qual S.scope s.heap.objs.size f (.ref c) cl)) -> ∃ t, PE ((iF (CXe P w) P w K mg base N fr S.qual S.scope f (.ref c) cl A outer s H E).fly fun c e H' => (∀ a ∈ aX fr cl, H' a = none) -> E c e (shw (aX fr cl) H H')) body t /\
   t (start N (vs ++ cvs)) (hid (aX fr cl) H) fun v H' => (∀ a ∈ aX fr cl, H' a = none) -> Q v (shw (aX fr cl) H H')) :
  codeAny (model P w) A (.call (.ref f) args) (CR (CXe P w) outer P w H s Q E) s := by
 have lim : s.heap.NoLimit := e0.mod.nolimit.keeps fun b o e => (e0.bs b o e).1
 obtain ⟨cm, hcm⟩ := zC e0.hok C
 have hcr : s.heap.CodeRec (.ref c) S.qual := e0.hok c _ hc
 refine PySem.W.kla_callFunE hr.depth (FnO.get e0.hok hf) rfl Sc.co Sc.gen hb hcr (hbi _ _ _ _ ?_)
 refine zB (cm := cm) Sc.kind (aCM e0.hok Sc C hcm) (wQ Sc) fun s1 x => ?_
 refine ⟨lim.keeps x.ic.keep, PySem.W.kla_codeExpr ?_⟩
 obtain ⟨t, ht, hq⟩ := hbody (hr.deeper _)
 have I : Inv (iF (CXe P w) P w K mg base N fr S.qual S.scope f (.ref c) cl A outer s H E) [] (start N (vs ++ cvs)) (hid (aX fr cl) H) s1 := s9 Sc C hr.hd e0 hl r hcm x
 refine wpAny_mono (ht [] s1 _ _ _ (I.wish _) hq) (fun u s' hs => ?_) fun e s' hs => tD Sc C e0 hs
 obtain ⟨v, H', J, rv, q⟩ := hs
 obtain ⟨hn, un, hok⟩ := rP Sc C e0 J.unwish
 exact ⟨v, _, J.os, J.bare, un, hok, rv, q hn⟩
end
end L2
namespace L2
open PySem PySem.Spec PyProof.Rows
theorem aAZ {env : Env} : ∀ (names : List (Str × NameKind)) (acc : List (Str × Addr)), (∀ x ∈ names, x.2 = .free -> ∃ c, env.cells.lookup x.1 = some c) ->
  (∀ x c, acc.lookup x = some c -> env.cells.lookup x = some c) ->
  ∃ cl, (forIn names acc fun x r => (if (x.2 == NameKind.free) = true then (do let a <- cellOf env x.1; pure (ForInStep.yield ((x.1, a) :: r))) else pure (ForInStep.yield r)) : Sem (List (Str × Addr))) = pure cl /\
   (∀ x c, cl.lookup x = some c -> env.cells.lookup x = some c) /\ (∀ x ∈ names, x.2 = .free -> ∃ c, cl.lookup x.1 = some c) /\ (∀ x c, acc.lookup x = some c -> ∃ c', cl.lookup x = some c') /\
   (∀ x c, cl.lookup x = some c -> (∃ c', acc.lookup x = some c') \/ (x, NameKind.free) ∈ names) := by
 intro names
 induction names with
 | nil => intro acc _ h; exact ⟨acc, rfl, h, fun x hx => absurd hx (by simp), fun x c e => ⟨c, e⟩, fun x c e => .inl ⟨c, e⟩⟩
 | cons x r ih =>
  intro acc hf h
  obtain ⟨n, k⟩ := x
  by_cases hk : k = .free
  ·subst hk
   obtain ⟨c, hc⟩ := hf (n, .free) List.mem_cons_self rfl
   have hc : env.cells.lookup n = some c := hc
   obtain ⟨cl, e1, e2, e3, e4, e5⟩ := ih ((n, c) :: acc) (fun y hy => hf y (List.mem_cons_of_mem _ hy)) (fun y d e => by
    rw [List.lookup_cons] at e
    cases q : y == n with
    | true => rw [q] at e; cases e; have := eq_of_beq q; subst this; exact hc
    | false => rw [q] at e; exact h y d e)
   refine ⟨cl, ?_, e2, fun y hy hyf => ?_, fun y d e => ?_, fun y d e => ?_⟩
   ·rw [List.forIn_cons]
    simp only [beq_self_eq_true, if_true]
    unfold cellOf
    simp only [hc, pure_bind]
    exact e1
   ·rcases List.mem_cons.mp hy with z | z
    ·subst z
     exact e4 n c (by rw [List.lookup_cons]; simp)
    ·exact e3 y z hyf
   ·by_cases q : y = n
    ·subst q; exact e4 y c (by rw [List.lookup_cons]; simp)
    ·exact e4 y d (by rw [List.lookup_cons, beq_false_of_ne q]; exact e)
   ·rcases e5 y d e with ⟨c', z⟩ | z
    ·by_cases q : y = n
     ·subst q; exact .inr List.mem_cons_self
     ·rw [List.lookup_cons, beq_false_of_ne q] at z
      exact .inl ⟨c', z⟩
    ·exact .inr (List.mem_cons_of_mem _ z)
  ·obtain ⟨cl, e1, e2, e3, e4, e5⟩ := ih acc (fun y hy => hf y (List.mem_cons_of_mem _ hy)) h
   refine ⟨cl, ?_, e2, fun y hy hyf => ?_, e4, fun y d e => (e5 y d e).imp id fun z => List.mem_cons_of_mem _ z⟩
   ·rw [List.forIn_cons]
    have : (k == NameKind.free) = false := by simpa using hk
    simp only [this, Bool.false_eq_true, if_false, pure_bind]
    exact e1
   ·rcases List.mem_cons.mp hy with z | z
    ·subst z; exact absurd hyf hk
    ·exact e3 y z hyf
structure ClOf (cells : List (Str × Addr)) (sc : Scope) (cl : List (Str × Addr)) : Prop where
 of : ∀ x c, cl.lookup x = some c -> cells.lookup x = some c
 all : ∀ x ∈ sc.names, x.2 = .free -> ∃ c, cl.lookup x.1 = some c
 only : ∀ x c, cl.lookup x = some c -> (x, NameKind.free) ∈ sc.names
theorem wR {env : Env} {scope : Scope} (hf : ∀ x ∈ scope.names, x.2 = .free -> ∃ c, env.cells.lookup x.1 = some c) :
  ∃ cl, closureFor scope env = pure cl /\ ClOf env.cells scope cl := by
 obtain ⟨cl, e1, e2, e3, _, e5⟩ := aAZ scope.names [] hf (fun x c e => by simp at e)
 refine ⟨cl, ?_, e2, e3, fun x c e => ?_⟩
 ·unfold closureFor
  first
   | exact e1
   | (rw [<- e1]; rfl)
   | (simp only [bind_pure]; exact e1)
 ·rcases e5 x c e with ⟨c', z⟩ | z
  ·simp at z
  ·exact z
theorem aCO {pos : Pos} {r : List Value} (l : List Value) (h : TriplesOk l) : codeAmong pos (l ++ r) = (codeAmong pos l).or (codeAmong pos r) := by
 fun_induction TriplesOk l with
 | case1 => simp [codeAmong]
 | case2 a t b u x rest ih =>
  simp only [List.cons_append, codeAmong]
  split
  · rfl
  · exact ih h
 | case3 l h1 h2 => exact h.elim
structure Tb (mg : Str -> Option Value) (base : Heap) (c0 P0 : Addr) : Prop where
 hd : PySem.W.CodeHd base c0 P0
 bt : ∃ bm ob, mg "__builtins__" = some (.ref bm) /\ bm ≠ builtinsNs /\ base.get? bm = some ob /\ ob.cls = .type "module" /\ ob.dict = some builtinsNs /\ ob.data = .plain
section
variable {X : Cx} {pins : List (Addr × Obj)} {σ : St} {H : Hp} {s : Shared} {c0 P0 : Addr} {qs : List (Pos × Str)} {pos : Pos} {q : Str}
theorem aCP {ps : Array Value} {c : Addr} {h h' : Heap} (hk : HOk X.prog X.w H h) (hP : H P0 = some (.tbl qs)) (hps : h.get? P0 = some (PySem.W.tabObj ps)) (ht : TriplesOk ps.toList) (hall : ∀ p ∈ qs, codeAmong p.1 ps.toList = none \/ ∃ c, codeAmong p.1 ps.toList = some (.ref c) /\ H c = some (.cod p.2))
  (hu : ∀ p ∈ qs, p.1.line = pos.line -> p.1.col = pos.col -> p.2 = q) (hnf : codeAmong pos ps.toList = none) (hn : H c = none) (hx : Heap.ExtBut P0 h h') (hcr : h'.CodeRec (.ref c) q) (hP' : h'.get? P0 = some (PySem.W.tabObj (ps ++ #[rawInt pos.line, rawInt pos.col, .ref c]))) :
  HOk X.prog X.w (upd H c (.cod q)) h' := fun b u e => by
 have hcP : P0 ≠ c := fun z => by rw [<- z, hP] at hn; cases hn
 by_cases hb : b = c
 ·subst hb; rw [a7] at e; cases e; exact hcr
 ·rw [aQ hb] at e
  by_cases hbP : b = P0
  ·subst hbP
   rw [hP] at e; cases e
   refine ⟨_, hP', ?_, fun p hp => ?_⟩
   ·rw [Array.toList_append]; exact TriplesOk_snoc _ _ _ _ ht
   ·rw [Array.toList_append, aCO _ ht]
    rcases hall p hp with z | ⟨d, z, zd⟩
    ·rw [z]
     show (codeAmong p.1 [rawInt pos.line, rawInt pos.col, .ref c]) = none \/ _
     by_cases hq : p.1.line = pos.line /\ p.1.col = pos.col
     ·refine .inr ⟨c, ?_, ?_⟩
      ·show codeAmong p.1 [rawInt pos.line, rawInt pos.col, .ref c] = _
       rw [<- hq.1, <- hq.2]
       exact codeAmong_snoc [] trivial rfl
      ·rw [hu p hp hq.1 hq.2]; exact a7
     ·refine .inl ?_
      simp only [codeAmong, rawInt]
      rw [if_neg]
      simp only [Bool.and_eq_true, beq_iff_eq]
      intro z2
      exact hq ⟨by omega, by omega⟩
    ·refine .inr ⟨d, by rw [z]; rfl, ?_⟩
     rw [aQ (bE zd hn)]; exact zd
  ·refine (hk b u e).stay (fun d v hd r => hx d v ?_ r) (fun d r => by rw [aQ (bE r hn)]; exact r) (fun d _ r => by rw [aQ (bE r hn)]; exact r) fun d _ r => by rw [aQ (bE r hn)]; exact r
   rcases hd with z | z
   ·rw [z]; exact hbP
   ·intro z2; rw [z2, hP] at z; cases z
def Mkd (H : Hp) (q : Str) (c : Addr) (H1 : Hp) : Prop := (H c = some (.cod q) /\ H1 = H) \/ (H c = none /\ H1 = upd H c (.cod q))
theorem zD {S : ClSt} {M : Model} {A : Around} {E : Value -> Shared -> Prop} {Q : Value -> Shared -> Prop} {firstLine : Nat} (I : Inv X pins σ H s) (hcode : X.env.code = .ref c0) (T : Tb X.mg X.base c0 P0) (hP : H P0 = some (.tbl qs)) (hq : (pos, S.qual) ∈ qs)
    (hu : ∀ p ∈ qs, p.1.line = pos.line -> p.1.col = pos.col -> p.2 = S.qual) (hfree : ∀ x ∈ S.scope.names, x.2 = .free -> ∃ c, X.env.cells.lookup x.1 = some c)
    (h : ∀ f c cl doc pm ct H1 s', Mkd H S.qual c H1 -> H1 f = none -> ClOf X.env.cells S.scope cl -> Inv X pins σ (upd H1 f (FnO f (S.obj cl doc pm c ct))) s' -> Q (.ref f) s') :
    wpAny M A (makeFunction S.name S.qual S.params S.body S.scope X.env [] [] [] pos firstLine) Q E s := by
  obtain ⟨cl, hcl, hco⟩ := wR hfree
  obtain ⟨ps, hps, ht, hall⟩ := (show bZ X.prog X.w H s.heap P0 (.tbl qs) from I.hok P0 _ hP)
  have C : PySem.W.CodeHd s.heap c0 P0 := T.hd.keeps I.bk
  have hg : s.heap.Ns mainGlobals X.mg := I.mod.glob.keeps I.bk
  have hgP : mainGlobals ≠ P0 := fun z => by
    obtain ⟨o, es, ep, e, hd, _⟩ := hg
    rw [z, hps] at e; cases e; cases hd
  obtain ⟨bm, ob, b1, b2, b3, b4, b5, b6⟩ := T.bt
  have b3' := I.bk _ _ b3
  have hbP : bm ≠ P0 := fun z => by rw [z, hps] at b3'; cases b3'; cases b4
  have hbG : bm ≠ mainGlobals := fun z => by
    obtain ⟨o, es, ep, e, hd, _⟩ := hg
    rw [z, e] at b3'; cases b3'; rw [hd] at b6; cases b6
  have hB : s.heap.BuiltinsAt X.mg P0 := ⟨bm, ob, b1, b2, hbG, hbP, b3', b4, b5, b6⟩
  rcases hall _ hq with hnf | ⟨c, hf, hc⟩
  · have fin : ∀ (c' : Addr) (ctv doc : Value) (h' : Heap) (tk : Tok), Heap.ExtBut P0 s.heap h' -> s.heap.objs.size <= c' -> c' < h'.objs.size -> h'.CodeRec (.ref c') S.qual -> h'.get? P0 = some (PySem.W.tabObj (ps ++ #[rawInt pos.line, rawInt pos.col, .ref c'])) ->
        Q (.ref h'.objs.size) { s with heap := h'.push (S.obj cl doc ((X.mg "__name__").getD .none) c' ctv), toks := tk } := by
      intro c' ctv doc h' tk hx hge hlt hrec htb
      have hn : H c' = none := I.hok.fresh hge
      have hok1 : HOk X.prog X.w (upd H c' (.cod S.qual)) h' := aCP I.hok hP hps ht hall hu hnf hn hx hrec htb
      have hnf' : (upd H c' (.cod S.qual)) h'.objs.size = none := hok1.fresh (Nat.le_refl _)
      refine h h'.objs.size c' cl doc ((X.mg "__name__").getD .none) ctv _ _ (.inr ⟨hn, rfl⟩) hnf' hco ?_
      have ne : ∀ b o, H b = some o -> b ≠ c' /\ b ≠ h'.objs.size := fun b o e => ⟨bE e hn, fun z => by
        rw [z] at e
        rw [aQ (Nat.ne_of_gt hlt), e] at hnf'; cases hnf'⟩
      have nP : ∀ b, H b = none -> b ≠ P0 := fun b n z => by rw [z, hP] at n; cases n
      refine I.un ⟨fun b o e n _ _ => Heap.get?_push_of_some _ (hx b o (nP b n) e), fun b o e n _ _ => ⟨o.slots, Heap.get?_push_of_some _ (hx b o (nP b n) e)⟩, fun b o e n _ => ?_, fun b o e _ => ?_, fun b xs e => ?_, fun b o u e => ?_, fun b qs e => ?_⟩ ?_
      · have hb := Heap.lt_size e
        rw [aQ (Nat.ne_of_lt (Nat.lt_of_lt_of_le hb (Nat.le_trans hge (Nat.le_of_lt hlt)))), aQ (Nat.ne_of_lt (Nat.lt_of_lt_of_le hb hge))]; exact n
      · by_cases z : b = P0
        · subst z; exact ⟨_, Heap.get?_push_of_some _ htb⟩
        · exact ⟨o, Heap.get?_push_of_some _ (hx b o z e)⟩
      · rw [aQ (ne b _ e).2, aQ (ne b _ e).1]; exact e
      · rw [aQ (ne b _ e).2, aQ (ne b _ e).1]; exact e
      · rw [aQ (ne b _ e).2, aQ (ne b _ e).1]; exact e
      · exact hok1.laid (fun b u e => Heap.get?_push_of_some _ e) (Nat.le_refl _) (FnO.ok (Heap.get?_push_size _ rfl))
    obtain ⟨name, qual, params, body, scope⟩ := S
    cases body with
    | stmts body => exact PySem.W.makeFunction_K hcl I.ok.glob hg hcode C hps ht hnf hgP hB fin
    | expr body => exact PySem.W.kla_makeFunction hcl I.ok.glob hg hcode C hps ht hnf hgP hB fun c' ctv h' tk => fin c' ctv .none h' tk
  · have fin : ∀ (ctv doc : Value) (h' : Heap) (tk : Tok), (∀ b o, s.heap.get? b = some o -> h'.get? b = some o) -> s.heap.objs.size <= h'.objs.size ->
        Q (.ref h'.objs.size) { s with heap := h'.push (S.obj cl doc ((X.mg "__name__").getD .none) c ctv), toks := tk } := by
      intro ctv doc h' tk hk hsz
      refine h h'.objs.size c cl doc ((X.mg "__name__").getD .none) ctv H _ (.inl ⟨hc, rfl⟩) (I.hok.fresh hsz) hco ?_
      exact I.laid (fun b u e => Heap.get?_push_of_some _ (hk b u e)) hsz (FnO.ok (Heap.get?_push_size _ rfl))
    obtain ⟨name, qual, params, body, scope⟩ := S
    cases body with
    | stmts body => exact PySem.W.makeFunction_hit hcl I.ok.glob hg hcode C hps ht hf hB fin
    | expr body => exact PySem.W.kla_makeFunctionHit hcl I.ok.glob hg hcode C hps ht hf hB fun ctv h' tk => fin ctv .none h' tk
def tMk (cells : List (Str × Addr)) (S : ClSt) (P0 : Addr) (qs : List (Pos × Str)) : TE := fun σ H Q => H P0 = some (.tbl qs) /\ ∀ f c cl doc pm ct H1, Mkd H S.qual c H1 -> H1 f = none -> ClOf cells S.scope cl -> Q (.ref f) (upd H1 f (FnO f (S.obj cl doc pm c ct)))
theorem aJK {i : Nat} {x : Str} {params : Arguments} {body : List Stmt} {scope : Scope} (hcode : X.env.code = .ref c0) (T : Tb X.mg X.base c0 P0) (hqn : qualnameIn X.env x x = q) (hq : (pos, q) ∈ qs)
  (hu : ∀ p ∈ qs, p.1.line = pos.line -> p.1.col = pos.col -> p.2 = q) (hfree : ∀ y ∈ scope.names, y.2 = .free -> X.env.kindOf y.1 = some .cell \/ X.env.kindOf y.1 = some .free)
  (hd0 : params.defaults = []) (hk0 : params.kw_defaults = []) (ha : annTrees params none X.env = [])
  (hN : X.N.Nodup) (hi : X.N[i]? = some x) (hx : Loc X.env.scope x) (hf : X.fn x = true \/ X.env.scope.names.lookup x = some .local := by first | exact .inl rfl | exact .inr rfl | assumption) :
  PS X (.FunctionDef x params body [] none [] scope none x pos) (kU (tMk X.env.cells ⟨x, q, params, .stmts body, scope⟩ P0 qs) (jO i)) := by
 intro pins s σ H D I h
 obtain ⟨hP, h⟩ := h
 refine PySem.W.nestDef_K hd0 hk0 ha ?_
 rw [hqn]
 refine zD (S := ⟨x, q, params, .stmts body, scope⟩) I hcode T hP hq hu (fun y hy hyf => I.ok.has _ (hfree y hy hyf)) fun f c cl doc pm ct H1 s' hm hn hc I' => ?_
 exact lQ I' hN hi hx (v := .ref f) rfl (fun s'' I'' => ⟨_, _, I'', h f c cl doc pm ct H1 hm hn hc⟩) hf
theorem aJL {params : Arguments} {body : Expr} {scope : Scope} (hcode : X.env.code = .ref c0) (T : Tb X.mg X.base c0 P0) (hqn : X.env.qual ++ ("<lambda>" : Str) = q) (hq : (pos, q) ∈ qs)
  (hu : ∀ p ∈ qs, p.1.line = pos.line -> p.1.col = pos.col -> p.2 = q) (hfree : ∀ y ∈ scope.names, y.2 = .free -> X.env.kindOf y.1 = some .cell \/ X.env.kindOf y.1 = some .free)
  (hdef : defaultsOf params X.env = ([], [])) :
  PE X (.Lambda params body scope pos) (tMk X.env.cells ⟨"<lambda>", q, params, .expr body, scope⟩ P0 qs) := by
 intro pins s σ H Q I h
 obtain ⟨hP, h⟩ := h
 refine PySem.W.kla_eval hdef ?_
 rw [hqn]
 exact zD (S := ⟨"<lambda>", q, params, .expr body, scope⟩) I hcode T hP hq hu (fun y hy hyf => I.ok.has _ (hfree y hy hyf)) fun f c cl doc pm ct H1 s' hm hn hc I' => ⟨.ref f, _, I', rfl, h f c cl doc pm ct H1 hm hn hc⟩
end
end L2
namespace L2
open PySem PySem.Spec PyProof.Rows
abbrev Cv := List (Addr × Obj × V)
def pub (cv : Cv) (H : Hp) : Hp := fun b => match cv.lookup b with
 | some p => some (dY b p.1 p.2)
 | none => H b
def cV (cv : Cv) : List Addr := cv.map (·.1)
theorem gQ {cv : Cv} {b : Addr} : b ∈ cV cv ↔ ∃ p, cv.lookup b = some p := by
 unfold cV
 induction cv with
 | nil => simp
 | cons a r ih =>
  obtain ⟨x, p⟩ := a
  rw [List.map_cons, List.mem_cons, ih, List.lookup_cons]
  by_cases h : b = x
  ·subst h; simp
  ·rw [beq_false_of_ne h]
   simp [h]
theorem pA {cv : Cv} {H : Hp} {b : Addr} {p : Obj × V} (h : cv.lookup b = some p) : pub cv H b = some (dY b p.1 p.2) := by unfold pub; rw [h]
theorem dZ {cv : Cv} {H : Hp} {b : Addr} (h : b ∉ cV cv) : pub cv H b = H b := by
 unfold pub
 cases e : cv.lookup b with
 | none => rfl
 | some p => exact absurd (gQ.mpr ⟨p, e⟩) h
theorem j5 {cv : Cv} {H : Hp} (hd : ∀ b ∈ cV cv, H b = none) : aK H (pub cv H) := fun b o e => by
 rw [dZ fun z => by rw [hd b z] at e; cases e]; exact e
theorem aFT {P : Program} {w : World} {fs : List Addr} {cv : Cv} {H H1 : Hp} {h h' : Heap} (hd : ∀ b ∈ cV cv, H b = none) (hk : HOk P w (pub cv H) h) (un : Un fs [] (pub cv H) H1 h h') (hk1 : HOk P w H1 h') :
  Un fs [] H (hid (cV cv) H1) h h' /\ HOk P w (hid (cV cv) H1) h' := by
 have inn : ∀ b, b ∈ cV cv -> ∃ o v, h.get? b = some o /\ h'.get? b = some o /\ H1 b = some (dY b o v) := fun b hb => by
  obtain ⟨⟨o, v⟩, e⟩ := gQ.mp hb
  have z := pA (H := H) e
  have z1 := un.frzs b o _ z
  exact ⟨o, v, (dY.get hk z).1, (dY.get hk1 z1).1, z1⟩
 have out : ∀ b u, H b = some u -> b ∉ cV cv := fun b u e z => by rw [hd b z] at e; cases e
 refine ⟨⟨fun b o e n h1 h2 => ?_, fun b o e n h1 h2 => ?_, fun b o e n h2 => ?_, un.there, fun b xs q => ?_, fun b o u q => ?_, fun b ps q => ?_⟩, fun b u e => ?_⟩
 ·by_cases hb : b ∈ cV cv
  ·obtain ⟨o', v, q1, q2, _⟩ := inn b hb
   rw [e] at q1; cases q1; exact q2
  ·exact un.keep b o e (by rw [dZ hb]; exact n) h1 h2
 ·by_cases hb : b ∈ cV cv
  ·obtain ⟨o', v, q1, q2, _⟩ := inn b hb
   rw [e] at q1; cases q1; exact ⟨o.slots, q2⟩
  ·exact un.slot b o e (by rw [dZ hb]; exact n) h1 h2
 ·by_cases hb : b ∈ cV cv
  ·exact m7 hb
  ·rw [bM hb]; exact un.free b o e (by rw [dZ hb]; exact n) h2
 ·have hb := out b _ q
  rw [bM hb]; exact un.tups b xs (by rw [dZ hb]; exact q)
 ·have hb := out b _ q
  rw [bM hb]; exact un.frzs b o u (by rw [dZ hb]; exact q)
 ·have hb := out b _ q
  rw [bM hb]; exact un.tbls b ps (by rw [dZ hb]; exact q)
 ·obtain ⟨e1, hb⟩ := nX e
  have ne : ∀ c o, H1 c = some o -> (∀ o' v, o ≠ dY c o' v) -> c ∉ cV cv := fun c o q n z => by
   obtain ⟨o', v, _, _, z1⟩ := inn c z
   rw [q] at z1; cases z1; exact n o' v rfl
  exact (hk1 b u e1).stay (fun _ _ _ q => q) (fun c q => by rw [bM (ne c _ q fun _ _ z => nomatch z)]; exact q) (fun c _ q => by rw [bM (ne c _ q fun _ _ z => nomatch z)]; exact q) fun c _ q => by rw [bM (ne c _ q fun _ _ z => nomatch z)]; exact q
structure PubRel (X : Cx) (σ : St) (H : Hp) (js : List Nat) (cv : Cv) : Prop where
 at' : ∀ b o v, cv.lookup b = some (o, v) -> ∃ x j, j ∈ js /\ X.N[j]? = some x /\ X.env.cells.lookup x = some b /\ σ[j]? = some (some v)
 all : ∀ j ∈ js, ∃ x c o v, X.N[j]? = some x /\ X.env.cells.lookup x = some c /\ σ[j]? = some (some v) /\ cv.lookup c = some (o, v)
 free : ∀ b ∈ cV cv, H b = none
 inj : ∀ x y c, X.env.cells.lookup x = some c -> X.env.cells.lookup y = some c -> x = y
section
variable {X : Cx} {pins : List (Addr × Obj)} {σ : St} {H : Hp} {s : Shared}
def wS (X : Cx) (σ : St) (j : Nat) : Prop := ∃ x v, X.N[j]? = some x /\ X.env.kindOf x = some .cell /\ X.fn x = true /\ σ[j]? = some (some v)
theorem aCQ (I : Inv X pins σ H s) : ∀ (js : List Nat), (∀ j ∈ js, wS X σ j) -> ∃ cv, PubRel X σ H js cv /\ ∀ b o v, cv.lookup b = some (o, v) -> (∃ u, s.heap.get? b = some o /\ o.data = .cell (some u) /\ a5 v u) /\ X.s₀.heap.objs.size <= b /\ ∃ x, X.env.cells.lookup x = some b
 | [], _ => ⟨[], ⟨fun b o v e => by simp at e, fun j hj => by simp at hj, fun b hb => by simp [cV] at hb, I.ok.inj⟩, fun b o v e => by simp at e⟩
 | j :: js, hj => by
  obtain ⟨cv, R, ok⟩ := aCQ I js fun j' h' => hj j' (List.mem_cons_of_mem _ h')
  obtain ⟨x, v, hN, hk, hf, hv⟩ := hj j List.mem_cons_self
  obtain ⟨m, hn, hl⟩ := I.loc
  obtain ⟨u, r, l⟩ := hl j x v hN hv (.inr (.inl hk))
  rcases l with ⟨hk', _⟩ | ⟨_, c, hc, o, ho, hd⟩
  ·rw [hk] at hk'; cases hk'
  ·have hcab := I.ok.cab x c hf hc
   by_cases hin : c ∈ cV cv
   ·obtain ⟨⟨o', v'⟩, e⟩ := gQ.mp hin
    obtain ⟨x', j', hj', hN', hc', hv'⟩ := R.at' c o' v' e
    have hxx : x = x' := I.ok.inj x x' c hc hc'
    subst hxx
    refine ⟨cv, ⟨fun b o v e => ?_, fun k hk => ?_, R.free, R.inj⟩, ok⟩
    ·obtain ⟨x, j, h1, h2⟩ := R.at' b o v e
     exact ⟨x, j, List.mem_cons_of_mem _ h1, h2⟩
    ·rcases List.mem_cons.mp hk with z | z
     ·subst z
      obtain ⟨u2, r2, l2⟩ := hl j' x v' hN' hv' (.inr (.inl (by assumption)))
      obtain ⟨⟨u3, q1, q2, q3⟩, _⟩ := ok c o' v' e
      rw [ho] at q1; cases q1
      rw [hd] at q2
      have : u = u3 := by cases q2; rfl
      subst this
      have hvv : v = v' := a5.inj r q3
      subst hvv
      exact ⟨x, c, _, v, hN, hc, hv, e⟩
     ·exact R.all k z
   ·refine ⟨(c, o, v) :: cv, ⟨fun b o' v' e => ?_, fun k hk => ?_, fun b hb => ?_, R.inj⟩, fun b o' v' e => ?_⟩
    ·rw [List.lookup_cons] at e
     by_cases hb : b = c
     ·subst hb
      simp only [beq_self_eq_true] at e
      cases e
      exact ⟨x, j, List.mem_cons_self, hN, hc, hv⟩
     ·rw [beq_false_of_ne hb] at e
      obtain ⟨x, j, h1, h2⟩ := R.at' b o' v' e
      exact ⟨x, j, List.mem_cons_of_mem _ h1, h2⟩
    ·rcases List.mem_cons.mp hk with z | z
     ·subst z
      exact ⟨x, c, o, v, hN, hc, hv, by rw [List.lookup_cons]; simp⟩
     ·obtain ⟨x', c', o', v', h1, h2, h3, h4⟩ := R.all k z
      refine ⟨x', c', o', v', h1, h2, h3, ?_⟩
      rw [List.lookup_cons, beq_false_of_ne (show c' ≠ c from fun z => by rw [z] at h4; exact hin (gQ.mpr ⟨_, h4⟩))]; exact h4
    ·have hb' : b = c \/ b ∈ cV cv := by simpa [cV] using hb
     rcases hb' with z | z
     ·subst z; exact I.freeC x b hc
     ·exact R.free b z
    ·rw [List.lookup_cons] at e
     by_cases hb : b = c
     ·subst hb
      simp only [beq_self_eq_true] at e
      cases e
      exact ⟨⟨u, ho, hd, r⟩, hcab, x, hc⟩
     ·rw [beq_false_of_ne hb] at e
      exact ok b o' v' e
theorem aGU (I : Inv X pins σ H s) {js : List Nat} {cv : Cv} (R : PubRel X σ H js cv) (ok : ∀ b o v, cv.lookup b = some (o, v) -> (∃ u, s.heap.get? b = some o /\ o.data = .cell (some u) /\ a5 v u) /\ X.s₀.heap.objs.size <= b /\ ∃ x, X.env.cells.lookup x = some b) :
  Env0 X.prog X.w X.K X.mg X.base X.A X.stack s (pub cv H) where
 frames := I.ok.frames
 mod := I.ok.mod
 bs := fun b o e => ⟨(I.bs b o e).1, by
  rw [dZ]
  ·exact (I.bs b o e).2
  ·intro z
   obtain ⟨⟨o', v⟩, q⟩ := gQ.mp z
   have h1 := (ok b o' v q).2.1
   have h2 := Heap.lt_size e
   exact absurd (Nat.lt_of_lt_of_le h2 (Nat.le_trans I.ok.bsz h1)) (Nat.lt_irrefl _)⟩
 bsz := Nat.le_trans I.ok.bsz I.sz
 funs := I.stack
 frf := fun b hb => by
  rw [dZ]
  ·exact I.stkFree b hb
  ·intro z
   obtain ⟨⟨o', v⟩, q⟩ := gQ.mp z
   obtain ⟨_, h1, x, hx⟩ := ok b o' v q
   rcases List.mem_cons.mp (I.stkSub b hb) with z2 | z2
   ·exact I.cne x b hx z2
   ·obtain ⟨_, o, ho, _⟩ := I.ok.funs.mem z2
    exact absurd (Nat.lt_of_lt_of_le (Heap.lt_size ho) h1) (Nat.lt_irrefl _)
 hok := fun b u e => by
  by_cases hb : b ∈ cV cv
  ·obtain ⟨⟨o, v⟩, q⟩ := gQ.mp hb
   rw [pA q] at e; cases e
   obtain ⟨⟨u, h1, h2, h3⟩, _⟩ := ok b o v q
   exact dY.ok h3 h1 h2
  ·rw [dZ hb] at e
   exact (I.hok b u e).stay (fun _ _ _ q => q) (fun c q => j5 R.free _ _ q) (fun c _ q => j5 R.free _ _ q) fun c _ q => j5 R.free _ _ q
 bare := I.bare
def aCR (X : Cx) (js : List Nat) (sp : Sp) (E : XK) (t : TA) : TE := fun σ H Q => t σ H fun vs H1 => (∀ j ∈ js, wS X σ j) /\ ∀ cv, PubRel X σ H1 js cv -> sp vs (pub cv H1) (fun v H2 => Q v (hid (cV cv) H2)) (fun c e H2 => E c e (hid (cV cv) H2) /\ ∀ a, e = some a -> a ∉ cV cv)
theorem aJM {k : Nat} {x : Str} {ps : List Str} {sp : Sp} {E : XK} {p pos : Pos} {e : Expr} {es : List Expr} {t : TA} {js : List Nat} (C : Calls X.prog X.w X.K X.mg X.base (CXe X.prog X.w) k x ps sp) (hr : Room k X.A) (hg : Gl X x) (hx : lS (CXe X.prog X.w) X E) (ha : PA X (e :: es) t) (hdb : (x == ("__debug__" : Str)) = false := by decide)
  (he : starEach (e :: es) X.env = (false, eval e X.env) :: starEach es X.env := by rfl) (hpl : (backTo pos (starEach es X.env)).any (·.1) = false := by rfl) : PE X (.Call (.Name x p) (e :: es) [] pos) (aCR X js sp E t) := by
 obtain ⟨f, fd, F, b, m, kp⟩ := C
 intro pins s σ H Q I h
 refine wpAny_Call_Name_kw (lH I hg m ?_ hdb)
 refine PySem.W.callWith_K (h₀ := X.base) I.ok.mod.kin kp (thn (ha pos pins s σ H _ I h) fun us s1 ⟨vs, H1, I1, r, hcs, q⟩ => ⟨I1.kIn, ?_⟩) he hpl
 obtain ⟨cv, R, ok⟩ := aCQ I1 js hcs
 have hsp := q cv R
 have e0 := aGU I1 R ok
 have hl : us.length = ps.length := by rw [<- r.length]; exact F.len _ _ _ _ hsp
 have hb := b s1 us I1.kIn (by simpa using hl)
 rw [List.append_nil] at hb
 refine wpAny_call (codeAny_mono (F.run X.A X.stack s1 _ ⟨us, []⟩ us vs _ _ hr e0 hb r hsp) fun r' s' hq => ?_)
 cases r' with
 | error ev =>
  obtain ⟨e, C, od, H', rfl, os, bare, un, hok, hee, ⟨vs', T, q1, q2, q3⟩, q4, q5⟩ := hq
  obtain ⟨un', hok'⟩ := aFT R.free e0.hok un hok
  refine hx pins σ H1 s1 (.ref e) s' I1 ⟨e, C, od, hid (cV cv) H', rfl, os, bare, un', hok', ?_, ⟨vs', T, q1, q2, fun t e1 => ?_⟩, q4⟩
  ·rw [bM (q5 e rfl)]; exact hee
  ·exact ⟨g9 (q3 t e1).1, (q3 t e1).2⟩
 | ok fl =>
  cases fl with
  | ret u =>
   obtain ⟨v, H', os, bare, un, hok, rv, q'⟩ := hq
   obtain ⟨un', hok'⟩ := aFT R.free e0.hok un hok
   exact I1.after ⟨v, hid (cV cv) H', os, bare, un', hok', rv, q'⟩
  | next => exact False.elim hq
  | brk => exact False.elim hq
  | cont => exact False.elim hq
end
end L2
namespace L2
open PySem PySem.Spec PyProof.Rows
def wU (Ps : List Addr) (qs : List (Pos × Str)) : Hp := fun b => if b ∈ Ps then some (.tbl qs) else none
def wV (mg : Str -> Option Value) (h base : Heap) (T : Hp) (qs : List (Pos × Str)) (xs : List Str) : Prop :=
 ∀ x ∈ xs, ∃ c0 P0, T P0 = some (.tbl qs) /\ Tb mg base c0 P0 /\ ∀ f o fd, mg x = some (.ref f) -> h.get? f = some o -> o.data = .func fd -> fd.code = .ref c0
theorem aCS {P : Program} {w : World} {K : Frag} {mg mb : Str -> Option Value} {CX : CXT} {k : Nat} {fa a : Addr} {fd : FuncData} {x : Str} {s₁ : Shared} {vs : List Value} {ns : List Int} {qs : List (Pos × Str)} {xs : List Str} {tb : Str -> Addr × Addr}
  (hT : ∀ x ∈ xs, PySem.W.CodeHd s₁.heap (tb x).1 (tb x).2 /\ s₁.heap.get? (tb x).2 = some (PySem.W.tabObj #[])) (hlk : ∀ x ∈ xs, ∀ f o fd, mg x = some (.ref f) -> s₁.heap.get? f = some o -> o.data = .func fd -> fd.code = .ref (tb x).1)
  (hbt : ∃ bm ob, mg "__builtins__" = some (.ref bm) /\ bm ≠ builtinsNs /\ s₁.heap.get? bm = some ob /\ ob.cls = .type "module" /\ ob.dict = some builtinsNs /\ ob.data = .plain) (hNT : PySem.W.noTabs K = true)
  (KX : K.In s₁.heap) (hns : s₁.heap.Ns mainGlobals mg) (hb : s₁.heap.Ns builtinsNs mb) (hbb : ∀ x : Str, x ≠ "__name__" -> mb x = bootBuiltins x) (hlim : s₁.heap.NoLimit) (hg : s₁.gens = #[])
  (ha : s₁.heap.get? a = some { cls := .type "list", data := .seq vs.toArray }) (hi : IntsAre vs ns) (hl : ns.length <= sizeLine) (hr : Room k callerA)
  (F : ∀ (base : Heap) (T : Hp), K.In base -> base.Ns mainGlobals mg -> wV mg s₁.heap base T qs xs -> ∃ sp, FnOk P w K mg base CX k fa fd [x] sp /\ ∀ H : Hp, aK T H -> SqL K H a (ns.map V.int) -> sp [.ref a] H (fun v _ => v = .bl true) fun _ _ _ => False) (hbind : ∀ (s : Shared) (u : Value), BindsTo s fd ⟨[u], []⟩ [(x, u)])
  (hCX : ∀ H e s', CX [] H s₁ (fun _ _ _ => False) e s' -> False) :
  codeAny (model P w) callerA (.call (.ref fa) ⟨[.ref a], []⟩) (fun r s' => r = .ok (.ret (.bool true)) /\ OldK s₁.heap s'.heap /\ s'.os = s₁.os /\ AllBare s'.gens) s₁ := by
 have rv := u9 hi
 have lenV := hi.length
 let Ps : List Addr := xs.map fun x => (tb x).2
 have hPs : ∀ b ∈ Ps, s₁.heap.get? b = some (PySem.W.tabObj #[]) /\ isCodeTable s₁.heap b := fun b hb => by
  obtain ⟨y, hy, rfl⟩ := List.mem_map.mp hb
  exact ⟨(hT y hy).2, ((hT y hy).1.tab (hT y hy).2).isCodeTable⟩
 have haP : a ∉ Ps := fun z => by have := (hPs a z).1; rw [ha] at this; cases this
 have hKP : ∀ b ∈ Ps, K.lookup b = none := fun b hb => by
  cases e : K.lookup b with
  | none => rfl
  | some o =>
   have e2 := KX b o e
   rw [(hPs b hb).1] at e2
   cases e2
   have h2 := List.all_eq_true.mp hNT (b, _) (PySem.W.mem_of_lookupK e)
   exact absurd (show false = true from h2) Bool.false_ne_true
 have core : ∀ H : Hp, (∀ b ∈ Ps, H b = some (.tbl qs)) -> (∀ b, H b ≠ none -> b = a \/ b ∈ Ps) -> (H a = none \/ ∃ o xs, H a = some (.frz o (.lst xs))) -> SqL K H a (ns.map V.int) -> HOk P w H s₁.heap -> (H a ≠ none -> K.lookup a = none) ->
   codeAny (model P w) callerA (.call (.ref fa) ⟨[.ref a], []⟩) (fun r s' => r = .ok (.ret (.bool true)) /\ OldK s₁.heap s'.heap /\ s'.os = s₁.os /\ AllBare s'.gens) s₁ := by
  intro H hP hA hO hS hok hK
  have base_of : ∀ {b : Addr} {o : Obj}, s₁.heap.get? b = some o -> H b = none -> (mX s₁.heap H).get? b = some o := fun e n => aDR e n
  have free_of : ∀ {b : Addr} {o : Obj}, s₁.heap.get? b = some o -> (∀ vs, o.data ≠ .seq vs) -> o ≠ PySem.W.tabObj #[] -> H b = none := fun {b o} e d d2 => by
   cases q : H b with
   | none => rfl
   | some u =>
    rcases hA b (by rw [q]; simp) with e' | e'
    ·subst e'
     rw [ha] at e; cases e
     exact absurd rfl (d _)
    ·rw [(hPs b e').1] at e; cases e; exact absurd rfl d2
  have noA : ∀ {b : Addr} {o : Obj} {es : Array DictEntry} {ep : Nat}, s₁.heap.get? b = some o -> o.data = .dict es ep -> H b = none := fun {b o es ep} e d => free_of e (fun vs z => by rw [d] at z; cases z) fun z => by rw [z] at d; cases d
  have nsK : ∀ {b : Addr} {m : Str -> Option Value}, s₁.heap.Ns b m -> (mX s₁.heap H).Ns b m := fun {b m} ⟨o, es, ep, e, d, r⟩ => ⟨o, es, ep, base_of e (noA e d), d, r⟩
  have hKb : K.In (mX s₁.heap H) := fun b o e => base_of (KX b o e) (by
   cases q : H b with
   | none => rfl
   | some u =>
    rcases hA b (by rw [q]; simp) with e' | e'
    ·subst e'
     rw [hK (by rw [q]; simp)] at e; cases e
    ·rw [hKP b e'] at e; cases e)
  have hM : Mod K mg (mX s₁.heap H) := ⟨hKb, nsK hns, ⟨mb, nsK hb, hbb⟩, let ⟨mc, h1, h2⟩ := hlim; ⟨mc, nsK h1, h2⟩⟩
  have e0 : Env0 P w K mg (mX s₁.heap H) callerA [] s₁ H := ⟨rfl, hM, fun b o e => aGA e, Nat.le_of_eq (aBX _ _), trivial, fun b hb => absurd (show b ∈ ([] : List Addr) from hb) (by simp), hok, .of_eq hg⟩
  have hTL : wV mg s₁.heap (mX s₁.heap H) (wU Ps qs) qs xs := fun y hy => by
   refine ⟨(tb y).1, (tb y).2, if_pos (List.mem_map.mpr ⟨y, hy, rfl⟩), ⟨?_, ?_⟩, hlk y hy⟩
   ·obtain ⟨o, vs, file, tf, flags, tg, inF, text, tt, e1, r1, r2, r3⟩ := (hT y hy).1
    exact ⟨o, vs, file, tf, flags, tg, inF, text, tt, base_of e1 (free_of e1 (fun vs z => by rw [r2] at z; cases z) fun z => by rw [z] at r1; cases r1), r1, r2, r3⟩
   ·obtain ⟨bm, ob, b1, b2, b3, b4, b5, b6⟩ := hbt
    exact ⟨bm, ob, b1, b2, base_of b3 (free_of b3 (fun vs z => by rw [b6] at z; cases z) fun z => by rw [z] at b4; cases b4), b4, b5, b6⟩
  have hTH : aK (wU Ps qs) H := fun b o e => by
   unfold wU at e
   split at e
   ·rename_i hb; cases e; exact hP b hb
   ·cases e
  obtain ⟨sp, FO, hsp⟩ := F _ _ hKb (nsK hns) hTL
  refine codeAny_mono (FO.run callerA [] s₁ H ⟨[.ref a], []⟩ [.ref a] [.ref a] _ _ hr e0 (hbind s₁ (.ref a)) (.cons rfl .nil) (hsp H hTH hS)) fun r s' h => ?_
  cases r with
  | error e => exact (hCX H e s' h).elim
  | ok fl =>
   cases fl with
   | next => exact False.elim h
   | brk => exact False.elim h
   | cont => exact False.elim h
   | ret u =>
    obtain ⟨v, H', os, bare, un, hok', r', q⟩ := h
    have q' : v = .bl true := q
    subst q'
    obtain rfl : u = Value.bool true := r'
    have kept : ∀ b o, s₁.heap.get? b = some o -> b ∉ Ps -> s'.heap.get? b = some o := fun b o e hb => by
     cases q : H b with
     | none => exact un.keep b o e q (by intro z; exact absurd (show b ∈ ([] : List Addr) from z) (by simp)) (by simp)
     | some u =>
      rcases hA b (by rw [q]; simp) with z | z
      ·subst z
       rcases hO with z | ⟨ob, xs, z⟩
       ·rw [q] at z; cases z
       ·have z2 := un.frzs b ob _ z
        obtain ⟨e1, _⟩ := hok b _ z
        obtain ⟨e2, _⟩ := hok' b _ z2
        rw [e] at e1; cases e1
        exact e2
      ·exact absurd z hb
    refine ⟨rfl, ⟨fun b o e => ?_, fun b o e => ?_⟩, os, bare⟩
    ·by_cases hb : b ∈ Ps
     ·obtain ⟨ps, e2, _⟩ := (show bZ P w H' s'.heap b (.tbl qs) from hok' b _ (un.tbls b _ (hP b hb)))
      have e1 := (hPs b hb).1
      rw [e] at e1; cases e1
      exact .inr (.inl ⟨(hPs b hb).2, rfl, #[], ps, rfl, by rw [Array.empty_append]; exact e2⟩)
     ·exact .inl (kept b o e hb)
    ·by_cases hb : b ∈ Ps
     ·obtain ⟨ps, e2, _⟩ := (show bZ P w H' s'.heap b (.tbl qs) from hok' b _ (un.tbls b _ (hP b hb)))
      exact ⟨_, e2⟩
     ·exact ⟨o, kept b o e hb⟩
 have tabOk : ∀ (H : Hp) b, b ∈ Ps -> bZ P w H s₁.heap b (.tbl qs) := fun H b hb => ⟨#[], (hPs b hb).1, trivial, fun p _ => .inl rfl⟩
 cases hk : K.lookup a with
 | some o =>
  have e := KX a o hk
  rw [ha] at e
  cases e
  refine core (wU Ps qs) (fun b hb => if_pos hb) (fun b z => ?_) (.inl (if_neg haP)) (.inr ⟨_, vs.toArray, _, hk, rfl, rfl, rfl, by rw [List.size_toArray, lenV]; exact hl, by simpa using rv⟩) (fun b u z => ?_) fun z => absurd (if_neg haP) z
  ·by_cases hb : b ∈ Ps
   ·exact .inr hb
   ·exact absurd (if_neg hb) z
  ·by_cases hb : b ∈ Ps
   ·have z' := (if_pos hb).symm.trans z
    cases z'
    exact tabOk _ b hb
   ·have z' := (if_neg hb).symm.trans z
    cases z'
 | none =>
  refine core (fun b => if b = a then some (.frz { cls := .type "list", data := .seq vs.toArray } (.lst (ns.map V.int))) else wU Ps qs b) (fun b hb => ?_) (fun b z => ?_) (.inr ⟨_, _, if_pos rfl⟩) (.inl (.inr ⟨{ cls := .type "list", data := .seq vs.toArray }, if_pos rfl⟩)) (fun b u z => ?_) fun _ => hk
  ·rw [if_neg (show ¬ b = a from fun z => haP (by rw [<- z]; exact hb))]; exact if_pos hb
  ·by_cases hb : b = a
   ·exact .inl hb
   ·rw [if_neg hb] at z
    by_cases hb2 : b ∈ Ps
    ·exact .inr hb2
    ·exact absurd (if_neg hb2) z
  ·by_cases hb : b = a
   ·have z' := (if_pos hb).symm.trans z
    cases z'
    subst hb
    exact ⟨ha, by rw [List.length_map]; exact hl, vs, _, rv, ha⟩
   ·have z' := (if_neg hb).symm.trans z
    by_cases hb2 : b ∈ Ps
    ·have z2 := (if_pos hb2).symm.trans z'
     cases z2
     exact tabOk _ b hb2
    ·have z2 := (if_neg hb2).symm.trans z'
     cases z2
theorem aGV {p : Program} {loose : List Str} {mean : ExcName -> Option Value} {mg mb : Str -> Option Value} {h : Heap} (T : Top p loose mean mg mb h) (xs : List Str) (hx : ∀ x ∈ xs, ∃ d ∈ recsOf p, d.name = x) :
  ∃ tb : Str -> Addr × Addr, (∀ x ∈ xs, PySem.W.CodeHd h (tb x).1 (tb x).2 /\ h.get? (tb x).2 = some (PySem.W.tabObj #[])) /\ ∀ x ∈ xs, ∀ f o fd, mg x = some (.ref f) -> h.get? f = some o -> o.data = .func fd -> fd.code = .ref (tb x).1 := by
 have key : ∀ x, ∃ t : Addr × Addr, x ∈ xs -> (PySem.W.CodeHd h t.1 t.2 /\ h.get? t.2 = some (PySem.W.tabObj #[])) /\ ∀ f o fd, mg x = some (.ref f) -> h.get? f = some o -> o.data = .func fd -> fd.code = .ref t.1 := fun x => by
  by_cases hm : x ∈ xs
  ·obtain ⟨d, hd, rfl⟩ := hx x hm
   obtain ⟨a, o, fd, c, P', h1, h2, h3, h4, h5, h6⟩ := T.tab d hd
   refine ⟨(c, P'), fun _ => ⟨⟨PySem.W.CodeHd.of h5 h6, h6.2⟩, fun f o' fd' e1 e2 e3 => ?_⟩⟩
   rw [h1] at e1; cases e1
   rw [h2] at e2; cases e2
   rw [h3] at e3; cases e3
   exact h4
  ·exact ⟨(0, 0), fun z => absurd z hm⟩
 exact ⟨fun x => (key x).choose, fun x hx => ((key x).choose_spec hx).1, fun x hx => ((key x).choose_spec hx).2⟩
theorem walk_ofT {l : PySem.W.OpenLaw} {n k : Nat} {q : Program} {loose : List Str} {XP : (Str -> Option Value) -> Heap -> Prop} {YP : World -> Heap -> Prop} {d : DefRec} {K : Params -> Frag} {CX : World -> CXT} {x : Str} {qs : List (Pos × Str)} {xs : List Str}
  (hxs : ∀ x ∈ xs, ∃ d ∈ recsOf q, d.name = x) (hNT : ∀ w : World, PySem.W.noTabs (K w.params) = true)
  (hn : l.most = some n) (hn2 : n <= sizeLine) (hdf : d.params.defaults = []) (hr : Room k callerA)
  (hY : ∀ (w : World) (h : Heap), YP w h -> (K w.params).In h)
  (F : ∀ (w : World) (mg : Str -> Option Value) (fa : Addr) (h : Heap), (K w.params).In h -> h.Ns mainGlobals mg -> mg d.name = some (.ref fa) ->
   ∃ fd : FuncData, (∀ (s : Shared) (u : Value), BindsTo s fd ⟨[u], []⟩ [(x, u)]) /\
    ∀ (base : Heap) (T : Hp), (K w.params).In base -> base.Ns mainGlobals mg -> wV mg h base T qs xs -> ∃ sp, FnOk l.prog w (K w.params) mg base (CX w) k fa fd [x] sp /\
     ∀ (H : Hp) (a : Addr) (ns : List Int), ns.length <= n -> aK T H -> SqL (K w.params) H a (ns.map V.int) -> sp [.ref a] H (fun v _ => v = .bl true) fun _ _ _ => False)
  (hCX : ∀ (w : World) (H : Hp) (s : Shared) (e : Value) (s' : Shared), CX w [] H s (fun _ _ _ => False) e s' -> False) :
  PySem.W.WalkO q loose XP YP l.row.toRowW d [] (fun f vs => PySem.call f vs) := by
 refine Att.attach_call hn hdf fun w s₀ s₁ mg mb fa o pm cd doc a vs ns G Y ho hd hcd hmg hobj hints hlen hg => ?_
 have KX := hY w _ Y
 obtain ⟨fd, hb, hF⟩ := F w mg fa _ KX G.T.g hmg
 obtain ⟨tb, hT, hlk⟩ := aGV G.T xs hxs
 refine aCS (qs := qs) hT hlk G.T.bmain (hNT w) KX G.T.g G.T.b G.T.builtins G.T.nolimit hg hobj hints (Nat.le_trans hlen hn2) hr (fun base T kb nb TL => ?_) hb fun H e s' => hCX w H s₁ e s'
 obtain ⟨sp, FO, hs⟩ := hF base T kb nb TL
 exact ⟨sp, FO, fun H h1 h2 => hs H a ns hlen h1 h2⟩
end L2
namespace Fl
open PySem L2 PyProof.Rows
mutual
def eX : PyData -> Bool
 | .none => true
 | .int _ => true
 | .str x => PyData.strOk x
 | .tuple xs => dU xs
 | _ => false
def dU : List PyData -> Bool
 | [] => true
 | x :: t => eX x && dU t
end
mutual
def gZ (w : World) : PyData -> Int
 | .none => reduceHash 0xFCA86420
 | .int i => hashInt i
 | .str x => hashStr w x
 | .tuple xs => reduceHash (Builtin.Tuple.tupleHashOf (lI w xs))
 | _ => 0
def lI (w : World) : List PyData -> List Int
 | [] => []
 | x :: t => gZ w x :: lI w t
end
mutual
def f7 : PyData -> Nat
 | .tuple xs => lU xs + 1
 | _ => 1
def lU : List PyData -> Nat
 | [] => 0
 | x :: t => f7 x + lU t
end
mutual
theorem qE : ∀ {d : PyData}, eX d = true -> d.canLay0 = true
 | .none, _ => rfl
 | .int _, _ => rfl
 | .str x, h => h
 | .tuple xs, h => by
  have h' : dU xs = true := h
  exact wW h'
theorem wW : ∀ {xs : List PyData}, dU xs = true -> PyData.canLayAll0 xs = true
 | [], _ => rfl
 | x :: t, h => by
  have h' : (eX x && dU t) = true := h
  rw [Bool.and_eq_true] at h'
  show (x.canLay0 && PyData.canLayAll0 t) = true
  rw [qE h'.1, wW h'.2]; rfl
end
mutual
theorem uC : ∀ {d e : PyData}, eX d = true -> eX e = true -> (PyData.eqv d e = true ↔ d = e)
 | .none, e, _, he => by cases e <;> simp [PyData.eqv] <;> cases he
 | .int i, e, _, he => by cases e <;> simp [PyData.eqv] <;> cases he
 | .str x, e, _, he => by cases e <;> simp [PyData.eqv] <;> cases he
 | .tuple xs, e, hd, he => by
  have hd' : dU xs = true := hd
  cases e with
  | tuple ys =>
   have he' : dU ys = true := he
   have := wX hd' he'
   show PyData.eqvAll xs ys = true ↔ _
   rw [this]
   exact ⟨fun z => by rw [z], fun z => by cases z; rfl⟩
  | _ => simp [PyData.eqv] <;> cases he
theorem wX : ∀ {xs ys : List PyData}, dU xs = true -> dU ys = true -> (PyData.eqvAll xs ys = true ↔ xs = ys)
 | [], ys, _, _ => by cases ys <;> simp [PyData.eqvAll]
 | x :: t, ys, hx, hy => by
  have hx' : (eX x && dU t) = true := hx
  rw [Bool.and_eq_true] at hx'
  cases ys with
  | nil => simp [PyData.eqvAll]
  | cons y u =>
   have hy' : (eX y && dU u) = true := hy
   rw [Bool.and_eq_true] at hy'
   rw [PyData.eqvAll, Bool.and_eq_true, uC hx'.1 hy'.1, wX hx'.2 hy'.2]
   exact ⟨fun ⟨a, b⟩ => by rw [a, b], fun z => by cases z; exact ⟨rfl, rfl⟩⟩
end
instance decPyData : DecidableEq PyData := fun a b => Classical.propDecidable (a = b)
theorem aGW {d e : PyData} (hd : eX d = true) (he : eX e = true) : PyData.eqv d e = decide (d = e) := by
 by_cases h : d = e
 ·rw [decide_eq_true h, (uC hd he).mpr h]
 ·rw [decide_eq_false h]
  cases q : PyData.eqv d e with
  | false => rfl
  | true => exact absurd ((uC hd he).mp q) h
end Fl
namespace Fl
open PySem L2 PyProof.Rows
theorem aA0 (xs : List PyData) : f7 (.tuple xs) = lU xs + 1 := by rw [f7]
theorem vE (A : Around) : A.in1.units = A.units + 1 := rfl
def kP (prog : Program) (w : World) (E : Value -> Shared -> Prop) (d : PyData) : Prop := ∀ (v : Value) (as : List Addr) (A : Around) (s : Shared) (Q : Int -> Shared -> Prop), eX d = true -> Reads s.heap v d as -> A.units + d.depth < cLine -> Q (gZ w d) { s with toks := s.toks + f7 d } ->
 wpAny (model prog w) A (pyHash v) Q E s
theorem aJN {prog : Program} {w : World} {E : Value -> Shared -> Prop} : ∀ (xs : List PyData) (ih : ∀ x ∈ xs, kP prog w E x) (vs : List Value) (as : List Addr) (A : Around) (s : Shared) (b : Array Int) (Q : Array Int -> Shared -> Prop), dU xs = true -> ReadsAll s.heap vs xs as -> A.units + PyData.depthAll xs < cLine ->
  (∀ b', b'.toList = b.toList ++ lI w xs -> Q b' { s with toks := s.toks + lU xs }) ->
  wpAny (model prog w) A (forIn vs b fun x r => do let h <- pyHash x; pure PUnit.unit; pure (ForInStep.yield (r.push h))) Q E s := by
 intro xs
 induction xs with
 | nil =>
  intro ih vs as A s b Q _ x _ h
  cases x
  exact wpAny_pure (h b (by simp [lI]))
 | cons k xs ih0 =>
  intro ih vs as A s b Q hk x hu h
  cases x with
  | @cons v vs _ _ as bs x1 x2 =>
   have hk' : (eX k && dU xs) = true := hk
   rw [Bool.and_eq_true] at hk'
   have hu' : A.units + max k.depth (PyData.depthAll xs) < cLine := hu
   rw [List.forIn_cons]
   refine wpAny_bind (wpAny_bind (ih k List.mem_cons_self _ _ A s _ hk'.1 x1 (by omega) ?_))
   refine wpAny_bind (wpAny_pure (wpAny_pure ?_))
   refine ih0 (fun x hx => ih x (List.mem_cons_of_mem _ hx)) _ _ A { s with toks := s.toks + f7 k } _ Q hk'.2 x2 (by omega) fun b' hb => ?_
   have q := h b' (by rw [hb]; simp [lI])
   rw [show lU (k :: xs) = f7 k + lU xs by rw [lU], <- Nat.add_assoc] at q
   exact q
end Fl
namespace Fl
open PySem L2 PyProof.Rows
theorem vF (w : World) (i : Int) : gZ w (.int i) = hashInt i := by rw [gZ]
theorem vG (w : World) (i : Str) : gZ w (.str i) = hashStr w i := by rw [gZ]
theorem aCT (w : World) (xs : List PyData) : gZ w (.tuple xs) = reduceHash (Builtin.Tuple.tupleHashOf (lI w xs)) := by rw [gZ]
theorem aA1 (i : Int) : f7 (.int i) = 1 := by unfold f7; rfl
theorem aA2 (i : Str) : f7 (.str i) = 1 := by unfold f7; rfl
theorem aEA {prog : Program} {w : World} {E : Value -> Shared -> Prop} (i : Int) : kP prog w E (.int i) := fun v as A s Q _ r _ h => by
 rw [vF, aA1] at h
 cases r
 exact wpAny_pyHash_int h
theorem aEB {prog : Program} {w : World} {E : Value -> Shared -> Prop} (i : Str) : kP prog w E (.str i) := fun v as A s Q _ r _ h => by
 rw [vG, aA2] at h
 cases r
 exact wpAny_pyHash_str h
theorem aEC {prog : Program} {w : World} {E : Value -> Shared -> Prop} (xs : List PyData) (ih : ∀ x ∈ xs, kP prog w E x) : kP prog w E (.tuple xs) := fun v as A s Q hk r hu h => by
 rw [aCT, aA0] at h
 cases r with
 | @tuple a o vs n _ as h1 h2 h3 h4 =>
  have hk' : dU xs = true := hk
  have hu' : A.units + (PyData.depthAll xs + 1) < cLine := hu
  refine PySem.W.pyHash_slot (T := "tuple") ⟨o, h1, h2⟩ F.slot_tuple_hash F.entry_tuple_hash (F.args_tuple_hash_1 _) (beq_builtin_none _) (.inr (by omega)) ?_
  show wpAny _ _ (Builtin.Tuple.tupleItemsOf (.ref a) >>= _) _ _ s
  refine wpAny_bind (wpAny_tupleItemsOf h1 h3 ?_)
  refine wpAny_bind ?_
  rw [<- Array.forIn_toList]
  refine aJN xs ih vs.toList as A.in1 s #[] _ hk' h4 (by rw [vE]; omega) fun b hb => ?_
  show wpAny _ _ (retInt (Builtin.Tuple.tupleHashOf b.toList)) _ _ _
  rw [hb]
  exact wpAny_bind (wpAny_mkInt (wpAny_pure ⟨_, _, rfl, h⟩))
end Fl
namespace Fl
open PySem L2 PyProof.Rows
theorem aA3 (w : World) : gZ w .none = reduceHash 0xFCA86420 := by rw [gZ]
theorem yQ : f7 .none = 1 := by unfold f7; rfl
theorem aED {prog : Program} {w : World} {E : Value -> Shared -> Prop} : kP prog w E .none := fun v as A s Q _ r hu h => by
 rw [aA3, yQ] at h
 generalize hg : reduceHash 0xFCA86420 = g at h
 cases r
 refine PySem.W.pyHash_slot (T := "NoneType") rfl F.slot_NoneType_hash F.entry_NoneType_hash (F.args_NoneType_hash_1 _) (beq_builtin_none _) (.inr (by omega)) (wpAny_bind (wpAny_pure (wpAny_bind (wpAny_mkInt (wpAny_pure ⟨0xFCA86420, _, rfl, ?_⟩)))))
 rw [hg]
 exact h
end Fl
namespace Fl
open PySem L2 PyProof.Rows
theorem aJO {prog : Program} {w : World} {E : Value -> Shared -> Prop} : ∀ (n : Nat) (d : PyData), sizeOf d <= n -> kP prog w E d := by
 intro n
 induction n with
 | zero => intro d h; cases d <;> simp at h
 | succ n ih =>
  intro d h
  cases d with
  | none => exact aED
  | int i => exact aEA i
  | str x => exact aEB x
  | tuple xs =>
   refine aEC xs fun x hx => ih x ?_
   have := List.sizeOf_lt_of_mem hx
   simp only [PyData.tuple.sizeOf_spec] at h
   omega
  | bool b => exact fun v as A s Q hk => nomatch hk
  | list xs => exact fun v as A s Q hk => nomatch hk
  | dict xs => exact fun v as A s Q hk => nomatch hk
theorem aJP {prog : Program} {w : World} {E : Value -> Shared -> Prop} (d : PyData) : kP prog w E d := aJO (sizeOf d) d (Nat.le_refl _)
theorem aGX {M : Model} {A : Around} {E : Value -> Shared -> Prop} {s : Shared} : ∀ (n : Nat) (d : PyData) (v : Value) (as : List Addr) (Q : Bool -> Shared -> Prop), eX d = true -> Reads s.heap v d as -> d.depth <= n -> Q true s -> wpAny M A (eqIsQuiet n v) Q E s := by
 intro n
 induction n with
 | zero =>
  intro d v as Q hk r hd h
  cases d with
  | none => cases r; rw [eqIsQuiet_byValue _ rfl]; exact wpAny_pure h
  | int i => cases r; rw [eqIsQuiet_byValue _ rfl]; exact wpAny_pure h
  | str x => cases r; rw [eqIsQuiet_byValue _ rfl]; exact wpAny_pure h
  | tuple xs =>
   have hd' : PyData.depthAll xs + 1 <= 0 := hd
   omega
  | bool b => exact nomatch hk
  | list xs => exact nomatch hk
  | dict xs => exact nomatch hk
 | succ n ih =>
  intro d v as Q hk r hd h
  cases d with
  | none => cases r; rw [eqIsQuiet_byValue _ rfl]; exact wpAny_pure h
  | int i => cases r; rw [eqIsQuiet_byValue _ rfl]; exact wpAny_pure h
  | str x => cases r; rw [eqIsQuiet_byValue _ rfl]; exact wpAny_pure h
  | bool b => exact nomatch hk
  | list xs => exact nomatch hk
  | dict xs => exact nomatch hk
  | tuple xs =>
   cases r with
   | @tuple a o vs m _ as h1 h2 h3 h4 =>
    have hk' : dU xs = true := hk
    have hd' : PyData.depthAll xs + 1 <= n + 1 := hd
    have hT : s.TypeIs (.ref a) "tuple" := ⟨o, h1, h2⟩
    unfold eqIsQuiet
    refine wpAny_bind (wpAny_specialOf hT F.slot_tuple_eq.lookup ?_)
    show wpAny _ _ (isInstance (.ref a) (.type "tuple") >>= _) _ _ s
    refine wpAny_bind (wpAny_isInstance hT isSubtype_tuple_tuple ?_)
    simp only [Bool.not_true, Bool.false_eq_true, if_false]
    refine wpAny_bind (wpAny_seqItems h1 h3 ?_)
    refine wpAny_bind ?_
    show wpAny _ _ (forIn vs _ _) _ _ s
    rw [<- Array.forIn_toList]
    refine wpAny_forIn_list _ (fun rest r s' => r.1 = none /\ s' = s /\ ∃ ys bs, dU ys = true /\ PyData.depthAll ys <= n /\ ReadsAll s.heap rest ys bs) _ ?_ ?_ _ _ ⟨rfl, rfl, xs, _, hk', by omega, h4⟩
    ·rintro v rest r s' ⟨hr, rfl, ys, bs, hy, hdy, ry⟩
     cases ry with
     | @cons _ _ y yt cs ds r1 r2 =>
      have hy' : (eX y && dU yt) = true := hy
      rw [Bool.and_eq_true] at hy'
      have hdy' : max y.depth (PyData.depthAll yt) <= n := hdy
      refine wpAny_bind (ih y v _ _ hy'.1 r1 (by omega) ?_)
      simp only [Bool.not_true, Bool.false_eq_true, if_false]
      exact wpAny_pure ⟨rfl, rfl, yt, _, hy'.2, by omega, r2⟩
    ·rintro ⟨r1, r2⟩ s' ⟨hr, rfl, _⟩
     simp only at hr
     subst hr
     exact wpAny_pure h
def aNI (h : Heap) (d : PyData) (a : Addr) : Prop := eX d = true /\ d.depth <= 8 /\ ∃ as, Reads h (.ref a) d as
mutual
theorem tE {h h' : Heap} {a : Addr} {o : Obj} {es : Array DictEntry} {ep : Nat} (ho : h.get? a = some o) (hd : o.data = .dict es ep) (hs : Heap.SameBut a h h') : ∀ {v : Value} {d : PyData} {as : List Addr}, eX d = true -> Reads h v d as -> Reads h' v d as
 | _, _, _, _, .none => .none
 | _, .bool _, _, hk, _ => nomatch hk
 | _, _, _, _, .int i t => .int i t
 | _, _, _, _, .str i t => .str i t
 | _, .list _, _, hk, _ => nomatch hk
 | _, .dict _, _, hk, _ => nomatch hk
 | _, .tuple _, _, hk, .tuple (a := b) h1 h2 h3 h4 => .tuple ((hs.2 b (fun z => by subst z; rw [ho] at h1; cases h1; rw [hd] at h3; cases h3)).trans h1) h2 h3 (oR ho hd hs hk h4)
theorem oR {h h' : Heap} {a : Addr} {o : Obj} {es : Array DictEntry} {ep : Nat} (ho : h.get? a = some o) (hd : o.data = .dict es ep) (hs : Heap.SameBut a h h') : ∀ {vs : List Value} {xs : List PyData} {as : List Addr}, dU xs = true -> ReadsAll h vs xs as -> ReadsAll h' vs xs as
 | _, _, _, _, .nil => .nil
 | _, _, _, hk, .cons r1 r2 => .cons (tE ho hd hs ((Bool.and_eq_true ..).mp hk).1 r1) (oR ho hd hs ((Bool.and_eq_true ..).mp hk).2 r2)
end
def i4 (prog : Program) (w : World) : HeapKind prog w PyData where
 is := aNI
 hash := gZ w
 draws := f7
 room := fun A => A.units + 9 < cLine
 inj := fun {h a x y} hx hy => by
  obtain ⟨k1, _, as, r1⟩ := hx
  obtain ⟨k2, _, bs, r2⟩ := hy
  exact PySem.SeqAt.Reads.unique x y _ _ _ (qE k1) r1 r2
 keeps := fun {h h' k a d o es ep} hx ho hd hs => by
  obtain ⟨k1, k2, as, r1⟩ := hx
  exact ⟨k1, k2, as, tE ho hd hs k1 r1⟩
 pyHash := fun {A E s k a Q} hu hk h => by
  obtain ⟨k1, k2, as, r1⟩ := hk
  exact aJP k _ as A s Q k1 r1 (by omega) h
 eqBool := fun {A E s x y a b Q} hu hx hy h => by
  obtain ⟨k1, k2, as, r1⟩ := hx
  obtain ⟨l1, l2, bs, r2⟩ := hy
  refine PySem.SeqAt.eqAt_reads x y A s _ _ as bs r1 r2 (qE k1) (qE l1) ?_ prog w E Q ?_
  ·have : min x.depth y.depth <= 8 := Nat.le_trans (Nat.min_le_left _ _) k2
   omega
  ·rw [aGW k1 l1]; exact h
 quiet := fun {A E s k a Q} hk h => by
  obtain ⟨k1, k2, as, r1⟩ := hk
  exact aGX 8 k _ as Q k1 r1 k2 h
end Fl
namespace Fl
open PySem L2 PyProof.Rows
abbrev Ent := PyData × V × V
def qF (w : World) (p : Ent) (en : DictEntry) : Prop := en.hash = gZ w p.1 /\ a5 p.2.1 en.key /\ a5 p.2.2 en.val
def d7 (w : World) (a : Addr) (es : List Ent) : HO := .ext fun h => (a == sysModules) = false /\ ∃ o ar ep, h.get? a = some o /\ o.ExactDict /\ o.data = .dict ar ep /\ Paired (qF w) es ar.toList
theorem lJ {P : Program} {w : World} {H : Hp} {h : Heap} {a : Addr} {es : List Ent} (hd : (a == sysModules) = false) (hh : ∃ o ar ep, h.get? a = some o /\ o.ExactDict /\ o.data = .dict ar ep /\ Paired (qF w) es ar.toList) : bZ P w H h a (d7 w a es) :=
 ⟨⟨hd, hh⟩, let ⟨o, _, _, e, _⟩ := hh; ⟨o, e⟩, fun h1 h2 ⟨q, o, es, ep, e, r⟩ kp => ⟨q, o, es, ep, kp _ e, r⟩⟩
def iO : PyData -> Bool
 | .tuple xs => eX (.tuple xs) && decide ((PyData.tuple xs).depth <= 8)
 | _ => false
def rQ : PyData -> Bool
 | .int _ => true
 | .str _ => true
 | _ => false
def cQ (k : PyData) (ks : List PyData) : Bool := (iO k && ks.all iO) || (rQ k && ks.all rQ)
theorem aGY {d : PyData} (h : iO d = true) : ∃ xs, d = .tuple xs /\ eX d = true /\ d.depth <= 8 := by
 cases d with
 | tuple xs =>
  have h' : (eX (.tuple xs) && decide ((PyData.tuple xs).depth <= 8)) = true := h
  rw [Bool.and_eq_true] at h'
  exact ⟨xs, rfl, h'.1, of_decide_eq_true h'.2⟩
 | _ => cases h
def jQ : Key -> PyData
 | .inl i => .int i
 | .inr x => .str x
theorem zE {d : PyData} (h : rQ d = true) : ∃ k, d = jQ k := by
 cases d with
 | int i => exact ⟨.inl i, rfl⟩
 | str i => exact ⟨.inr i, rfl⟩
 | _ => cases h
theorem vH {a b : Key} (h : jQ a = jQ b) : a = b := by
 cases a <;> cases b <;> cases h <;> rfl
theorem zF {K : Frag} {H : Hp} {v : V} {k : Key} (h : DatV K H v (jQ k)) : v = kV k := by
 cases k with
 | inl i => exact h.int_of
 | inr x => exact h.str_of
theorem wY {P : Program} {w : World} (k : Key) : gZ w (jQ k) = (c6 P w).hash k := by
 cases k with
 | inl i => exact vF w i
 | inr x => exact vG w x
def uD : Ent -> (PyData × Addr × Value) -> Prop := fun e x => e.1 = x.1 /\ e.2.1 = .ref x.2.1 /\ a5 e.2.2 x.2.2
def uE : Ent -> (Key × Value) -> Prop := fun e x => e.1 = jQ x.1 /\ e.2.1 = kV x.1 /\ a5 e.2.2 x.2
theorem aCU {P : Program} {w : World} : ∀ {es : List Ent} {ens : List DictEntry}, Paired (qF w) es ens -> (∀ e ∈ es, ∃ b, e.2.1 = .ref b) -> ∃ xs, ens = xs.map (entryOfKey (i4 P w)) /\ Paired uD es xs
 | _, _, .nil, _ => ⟨[], rfl, .nil⟩
 | e :: es, en :: ens, .cons h t, hb => by
  obtain ⟨xs, h1, h2⟩ := aCU (P := P) t fun e he => hb e (List.mem_cons_of_mem _ he)
  obtain ⟨b, hb'⟩ := hb e List.mem_cons_self
  obtain ⟨q1, q2, q3⟩ := h
  rw [hb'] at q2
  obtain ⟨hash, key, val⟩ := en
  have q2' : key = Value.ref b := q2
  have q1' : hash = gZ w e.1 := q1
  subst q2' q1'
  exact ⟨(e.1, b, val) :: xs, by rw [List.map_cons, h1]; rfl, .cons ⟨rfl, hb', q3⟩ h2⟩
theorem rR {P : Program} {w : World} : ∀ {es : List Ent} {xs : List (PyData × Addr × Value)}, Paired uD es xs -> Paired (qF w) es (xs.map (entryOfKey (i4 P w)))
 | _, _, .nil => .nil
 | _, _, .cons h t => .cons ⟨by rw [h.1]; rfl, by rw [h.2.1]; rfl, h.2.2⟩ (rR t)
theorem aCV {P : Program} {w : World} : ∀ {es : List Ent} {ens : List DictEntry}, Paired (qF w) es ens -> (∀ e ∈ es, ∃ k, e.1 = jQ k /\ e.2.1 = kV k) -> ∃ xs, Pairs (c6 P w) ens xs /\ Paired uE es xs /\ ∀ en ∈ ens, ∃ k, (c6 P w).is k en.key = true /\ en.hash = (c6 P w).hash k
 | _, _, .nil, _ => ⟨[], .nil, .nil, fun _ h => by cases h⟩
 | e :: es, en :: ens, .cons h t, hb => by
  obtain ⟨xs, h1, h2, h3⟩ := aCV (P := P) t fun e he => hb e (List.mem_cons_of_mem _ he)
  obtain ⟨k, hk1, hk2⟩ := hb e List.mem_cons_self
  obtain ⟨q1, q2, q3⟩ := h
  have hi : (c6 P w).is k en.key = true := aFS (by rw [<- hk2]; exact q2)
  refine ⟨(k, en.val) :: xs, .cons hi rfl h1, .cons ⟨hk1, hk2, q3⟩ h2, fun en' hen => ?_⟩
  rcases List.mem_cons.mp hen with z | z
  · subst z; exact ⟨k, hi, by rw [q1, hk1, wY (P := P)]⟩
  · exact h3 en' z
theorem aGZ {P : Program} {w : World} {k : Key} {v : Value} (h : (c6 P w).is k v = true) : a5 (kV k) v := by
 rcases keyIs_shape h with ⟨i, t, rfl, rfl⟩ | ⟨x, t, rfl, rfl⟩
 · exact ⟨t, rfl⟩
 · exact ⟨t, rfl⟩
theorem rS {P : Program} {w : World} : ∀ {es : List Ent} {xs : List (Key × Value)} {ens : List DictEntry}, Paired uE es xs -> Pairs (c6 P w) ens xs -> (∀ en ∈ ens, ∃ k, (c6 P w).is k en.key = true /\ en.hash = (c6 P w).hash k) -> Paired (qF w) es ens
 | _, _, _, .nil, .nil, _ => .nil
 | _, _, _, .cons h t, .cons p1 p2 ps, hk => by
  obtain ⟨k, hk1, hk2⟩ := hk _ List.mem_cons_self
  obtain rfl := (c6 P w).inj _ _ _ hk1 p1
  refine .cons ⟨by rw [hk2, h.1, wY (P := P)], by rw [h.2.1]; exact aGZ hk1, by rw [p2]; exact h.2.2⟩ (rS t ps fun en he => hk en (List.mem_cons_of_mem _ he))
def atE (es : List Ent) (k : PyData) : Option V := (es.find? fun e => decide (e.1 = k)).map (·.2.2)
def mY (es : List Ent) (k : PyData) (kv v : V) : List Ent := if (atE es k).isSome then es.map (fun e => if e.1 = k then (e.1, e.2.1, v) else e) else es ++ [(k, kv, v)]
theorem pB {k : PyData} : ∀ {es : List Ent} {xs : List (PyData × Addr × Value)}, Paired uD es xs -> mV (atE es k) ((atKey xs k).map (·.2))
 | _, _, .nil => trivial
 | e :: es, x :: xs, .cons h t => by
  have ih := pB (k := k) t
  unfold atE atKey at ih ⊢
  rw [List.find?_cons, List.find?_cons, h.1]
  by_cases q : x.1 = k
  · rw [decide_eq_true q]; exact h.2.2
  · rw [decide_eq_false q]; exact ih
theorem pC {k : Key} : ∀ {es : List Ent} {xs : List (Key × Value)}, Paired uE es xs -> mV (atE es (jQ k)) (valueAt xs k)
 | _, _, .nil => trivial
 | e :: es, x :: xs, .cons h t => by
  have ih := pC (k := k) t
  unfold atE valueAt at ih ⊢
  rw [List.find?_cons, List.find?_cons, h.1]
  by_cases q : x.1 = k
  · rw [decide_eq_true q, decide_eq_true (by rw [q])]; exact h.2.2
  · rw [decide_eq_false q, decide_eq_false (fun z => q (vH z))]; exact ih
theorem jH {o : Option V} {u : Option Value} (h : mV o u) : o.isSome = u.isSome := by
 cases o <;> cases u <;> first | rfl | exact h.elim
theorem nZ {α β : Type} {f : α -> β -> Prop} {g : α -> α} {k : β -> β} (hg : ∀ a b, f a b -> f (g a) (k b)) : ∀ {xs : List α} {ys : List β}, Paired f xs ys -> Paired f (xs.map g) (ys.map k)
 | _, _, .nil => .nil
 | _, _, .cons h t => .cons (hg _ _ h) (nZ hg t)
theorem n4 {α β : Type} {f : α -> β -> Prop} {a : α} {b : β} (h : f a b) : ∀ {xs : List α} {ys : List β}, Paired f xs ys -> Paired f (xs ++ [a]) (ys ++ [b])
 | _, _, .nil => .cons h .nil
 | _, _, .cons q t => .cons q (n4 h t)
theorem aFU {k : PyData} {b : Addr} {v : V} {u : Value} {es : List Ent} {xs : List (PyData × Addr × Value)} (r : a5 v u) (h : Paired uD es xs) : Paired uD (mY es k (.ref b) v) (storedH xs k b u) := by
 have q := jH (pB (k := k) h)
 rw [Option.isSome_map] at q
 unfold mY storedH
 rw [q]
 cases (atKey xs k).isSome with
 | true =>
  rw [if_pos rfl, if_pos rfl]
  refine nZ (fun e x hx => ?_) h
  unfold putAt
  rw [hx.1]
  by_cases z : x.1 = k
  · rw [if_pos z, if_pos z]; exact ⟨rfl, hx.2.1, r⟩
  · rw [if_neg z, if_neg z]; exact hx
 | false => rw [if_neg (by decide), if_neg (by decide)]; exact n4 ⟨rfl, rfl, r⟩ h
theorem aFV {k : Key} : ∀ {xs : List (Key × Value)}, xs.any (fun kv => decide (kv.1 = k)) = (valueAt xs k).isSome
 | [] => rfl
 | x :: xs => by
  have ih := aFV (k := k) (xs := xs)
  unfold valueAt at ih ⊢
  rw [List.any_cons, List.find?_cons]
  by_cases q : x.1 = k
  · rw [decide_eq_true q]; rfl
  · rw [decide_eq_false q, Bool.false_or]; exact ih
theorem aFW {k : Key} {v : V} {u : Value} {es : List Ent} {xs : List (Key × Value)} (r : a5 v u) (h : Paired uE es xs) : Paired uE (mY es (jQ k) (kV k) v) (stored xs k u) := by
 have q := jH (pC (k := k) h)
 unfold mY stored
 rw [q, aFV]
 cases (valueAt xs k).isSome with
 | true =>
  rw [if_pos rfl, if_pos rfl]
  refine nZ (fun e x hx => ?_) h
  by_cases z : x.1 = k
  · rw [if_pos z, if_pos (by rw [hx.1, z])]; exact ⟨by rw [hx.1], hx.2.1, r⟩
  · rw [if_neg z, if_neg (fun y => z (vH (hx.1.symm.trans y)))]; exact hx
 | false => rw [if_neg (by decide), if_neg (by decide)]; exact n4 ⟨rfl, rfl, r⟩ h
section
variable {X : Cx} {pins : List (Addr × Obj)} {σ : L2.St} {H : Hp} {s : Shared} {a : Addr} {es : List Ent} {k : PyData} {kv v : V} {ku u : Value} {A : Around} {E : Value -> Shared -> Prop}
structure DicAt (X : Cx) (H : Hp) (a : Addr) (es : List Ent) (k : PyData) (kv : V) : Prop where
 o : H a = some (d7 X.w a es)
 ks : ∀ e ∈ es, DatV X.K H e.2.1 e.1
 nd : (es.map (·.1)).Nodup
 dk : DatV X.K H kv k
 one : cQ k (es.map (·.1)) = true
theorem tF {α β : Type} {f : α -> β -> Prop} {y : β} : ∀ {xs : List α} {ys : List β}, Paired f xs ys -> y ∈ ys -> ∃ x, x ∈ xs /\ f x y
 | _, _, .nil, h => by cases h
 | _, _, .cons q t, h => by
  rcases List.mem_cons.mp h with z | z
  ·subst z; exact ⟨_, List.mem_cons_self, q⟩
  ·obtain ⟨x, h1, h2⟩ := tF t z
   exact ⟨x, List.mem_cons_of_mem _ h1, h2⟩
theorem n5 {α β γ : Type} {f : α -> β -> Prop} {g : α -> γ} {k : β -> γ} (h : ∀ a b, f a b -> g a = k b) : ∀ {xs : List α} {ys : List β}, Paired f xs ys -> xs.map g = ys.map k
 | _, _, .nil => rfl
 | _, _, .cons q t => by rw [List.map_cons, List.map_cons, h _ _ q, n5 h t]
theorem vI {α β : Type} {f : α -> β} : ∀ {xs : List α}, (xs.map f).Nodup -> xs.Nodup
 | [], _ => List.nodup_nil
 | x :: t, h => by
  rw [List.map_cons, List.nodup_cons] at h
  exact List.nodup_cons.mpr ⟨fun z => h.1 (List.mem_map_of_mem z), vI h.2⟩
theorem DicAt.cases (D : DicAt X H a es k kv) (I : Inv X pins σ H s) (rk : a5 kv ku) : (a == sysModules) = false /\
    ((∃ b xs, kv = .ref b /\ ku = .ref b /\ Paired uD es xs /\ (i4 X.prog X.w).is s.heap k b /\ s.heap.DictOfH (i4 X.prog X.w) a xs) \/
     (∃ kk xs, k = jQ kk /\ kv = kV kk /\ Paired uE es xs /\ (c6 X.prog X.w).is kk ku = true /\ s.heap.DictOf (c6 X.prog X.w) a xs)) := by
  obtain ⟨⟨hd, o, ar, ep, h1, h2, h3, h4⟩, _, _⟩ := (show bZ X.prog X.w H s.heap a (d7 X.w a es) from I.hok a _ D.o)
  refine ⟨hd, ?_⟩
  have hone := D.one
  unfold cQ at hone
  rw [Bool.or_eq_true, Bool.and_eq_true, Bool.and_eq_true, List.all_eq_true, List.all_eq_true] at hone
  rcases hone with ⟨hk, ha⟩ | ⟨hk, ha⟩
  · have key : ∀ (d : PyData) (v : V), iO d = true -> DatV X.K H v d -> ∃ b', v = .ref b' /\ (i4 X.prog X.w).is s.heap d b' := fun d v hd hv => by
      obtain ⟨ws, rfl, q1, q2⟩ := aGY hd
      obtain ⟨b', vs, rfl, _, _⟩ := hv.tup_of
      obtain ⟨as, r⟩ := hv.reads I (u := .ref b') rfl
      exact ⟨b', rfl, q1, q2, as, r⟩
    obtain ⟨b, rfl, hkb⟩ := key _ _ hk D.dk
    cases (show ku = Value.ref b from rk)
    obtain ⟨xs, hx1, hx2⟩ := aCU (P := X.prog) h4 fun e he => by
      obtain ⟨b', e1, _⟩ := key e.1 e.2.1 (ha _ (List.mem_map_of_mem he)) (D.ks e he)
      exact ⟨b', e1⟩
    refine .inl ⟨b, xs, rfl, rfl, hx2, hkb, o, ar, ep, h1, h2, h3, hx1, fun x hx => ?_, ?_⟩
    · obtain ⟨e, he, hex⟩ := tF hx2 hx
      obtain ⟨b', e1, q⟩ := key e.1 e.2.1 (ha _ (List.mem_map_of_mem he)) (D.ks e he)
      rw [hex.2.1] at e1
      cases e1
      rw [<- hex.1]; exact q
    · rw [<- n5 (g := fun e : Ent => e.1) (fun a b h => h.1) hx2]; exact D.nd
  · obtain ⟨kk, rfl⟩ := zE hk
    have hkv := zF D.dk
    obtain ⟨xs, hx1, hx2, hx3⟩ := aCV (P := X.prog) h4 fun e he => by
      obtain ⟨k', hk'⟩ := zE (ha _ (List.mem_map_of_mem he))
      have q := D.ks e he
      rw [hk'] at q
      exact ⟨k', hk', zF q⟩
    refine .inr ⟨kk, xs, rfl, hkv, hx2, aFS (by rw [<- hkv]; exact rk), o, ar, ep, h1, h2, h3, fun en hen => hx3 en (by simpa using hen), hx1, ?_⟩
    have : es.map (·.1) = (xs.map (·.1)).map jQ := by rw [List.map_map]; exact n5 (g := fun e : Ent => e.1) (fun a b h => h.1) hx2
    have nd := D.nd
    rw [this] at nd
    exact vI nd
theorem mF {A : Around} (hu : A.units + 64 < cLine) : (i4 X.prog X.w).room A.in1 := by show A.in1.units + 9 < cLine; rw [vE]; omega
theorem aJQ {Q : Value -> Shared -> Prop} (hu : A.units + 64 < cLine) (D : DicAt X H a es k kv) (I : Inv X pins σ H s) (rk : a5 kv ku) (h : ∀ s', Inv X pins σ H s' -> Q (.bool (atE es k).isSome) s') : wpAny (model X.prog X.w) A (compareOp .In ku (.ref a)) Q E s := by
 obtain ⟨hd, ⟨b, xs, rfl, rfl, hx, hk, dd⟩ | ⟨kk, xs, rfl, rfl, hx, hk, dd⟩⟩ := D.cases I rk
 ·refine wpAny_in_heap (mF hu) hk hd dd ?_
  have q := jH (pB (k := k) hx)
  rw [Option.isSome_map] at q
  rw [<- q]; exact h _ (I.tok _)
 ·refine wpAny_in_of hk hd dd.mapOf ?_
  rw [<- jH (pC (k := kk) hx)]; exact h _ (I.tok _)
theorem aG0 {Q : Value -> Shared -> Prop} (hu : A.units + 64 < cLine) (D : DicAt X H a es k kv) (I : Inv X pins σ H s) (rk : a5 kv ku) (h : ∀ s', Inv X pins σ H s' -> Q (.bool (!(atE es k).isSome)) s') : wpAny (model X.prog X.w) A (compareOp .NotIn ku (.ref a)) Q E s := by
 obtain ⟨hd, ⟨b, xs, rfl, rfl, hx, hk, dd⟩ | ⟨kk, xs, rfl, rfl, hx, hk, dd⟩⟩ := D.cases I rk
 ·refine wpAny_notIn_heap (mF hu) hk hd dd ?_
  have q := jH (pB (k := k) hx)
  rw [Option.isSome_map] at q
  rw [<- q]; exact h _ (I.tok _)
 ·refine wpAny_notIn_of hk hd dd.mapOf ?_
  rw [<- jH (pC (k := kk) hx)]; exact h _ (I.tok _)
theorem aG1 {Q : Value -> Shared -> Prop} (hu : A.units + 64 < cLine) (D : DicAt X H a es k kv) (I : Inv X pins σ H s) (rk : a5 kv ku) (hv : atE es k = some v) (h : ∀ w' s', Inv X pins σ H s' -> a5 v w' -> Q w' s') : wpAny (model X.prog X.w) A (getItem (.ref a) ku) Q E s := by
 obtain ⟨hd, ⟨b, xs, rfl, rfl, hx, hk, dd⟩ | ⟨kk, xs, rfl, rfl, hx, hk, dd⟩⟩ := D.cases I rk
 ·have q := pB (k := k) hx
  rw [hv] at q
  obtain ⟨w', hw, rw'⟩ := mV.some_of q
  obtain ⟨p, hp, hp2⟩ := Option.map_eq_some_iff.mp hw
  refine wpAny_getItem_heap (mF hu) hk dd hp ?_
  rw [hp2]; exact h w' _ (I.tok _) rw'
 ·have q := pC (k := kk) hx
  rw [hv] at q
  obtain ⟨w', hw, rw'⟩ := mV.some_of q
  exact wpAny_getItem_of hk dd.mapOf hw (h w' _ (I.tok _) rw')
theorem aG2 {Q : Unit -> Shared -> Prop} (hu : A.units + 64 < cLine) (D : DicAt X H a es k kv) (I : Inv X pins σ H s) (rk : a5 kv ku) (rv : a5 v u) (hz : es.length <= sizeLine) (h : ∀ s', Inv X pins σ (upd H a (d7 X.w a (mY es k kv v))) s' -> Q () s') :
  wpAny (model X.prog X.w) A (setItem (.ref a) ku u) Q E s := by
 obtain ⟨hd, ⟨b, xs, rfl, rfl, hx, hk, dd⟩ | ⟨kk, xs, rfl, rfl, hx, hk, dd⟩⟩ := D.cases I rk
 ·have hl : xs.length <= sizeLine := by rw [<- Paired.length hx]; exact hz
  refine wpAny_setItem_heap (hsz := hl) (mF hu) hk dd fun h' dd' hs => h _ ?_
  obtain ⟨q', ar, ep, hq, h2, h3, h4, _, h5⟩ := dd'
  refine qA I (by rw [D.o]; exact True.intro) hs ⟨q', hq⟩ (lJ hd ⟨q', ar, ep, hq, h2, h3, ?_⟩)
  rw [h4]
  exact rR (aFU rv hx)
 ·have hl : xs.length <= sizeLine := by rw [<- Paired.length hx]; exact hz
  refine wpAny_setItem_pairs (hsz := hl) hk dd fun h' dd' hs => h _ ?_
  obtain ⟨q', ar, ep, hq, h2, h3, h4, h5, _⟩ := dd'
  refine qA I (by rw [D.o]; exact True.intro) hs ⟨q', hq⟩ (lJ hd ⟨q', ar, ep, hq, h2, h3, ?_⟩)
  exact rS (aFW rv hx) h5 fun en hen => h4 en (by simpa using hen)
end
end Fl
namespace Fl
open PySem L2 PyProof.Rows
structure Er where
 c : Str
 fs : List (Str × PyData)
inductive R (α : Type) where
 | bad | ok (a : α) | ex (e : Er)
def R.bind {α β : Type} : R α -> (α -> R β) -> R β
 | .bad, _ => .bad
 | .ok a, f => f a
 | .ex e, _ => .ex e
@[simp] theorem R.bind_ok {α β : Type} (a : α) (f : α -> R β) : (R.ok a).bind f = f a := id rfl
@[simp] theorem R.bind_bad {α β : Type} (f : α -> R β) : (R.bad : R α).bind f = .bad := id rfl
@[simp] theorem R.bind_ex {α β : Type} (e : Er) (f : α -> R β) : (R.ex e : R α).bind f = .ex e := id rfl
inductive A where
 | d (x : PyData) | l (xs : List PyData) | m (kvs : List (PyData × PyData)) | x (e : Er) | g (k n : Nat) (f : List PyData -> R PyData) | k (q : Str) | f (kvs : List (PyData × PyData))
abbrev Sg := List (Option A)
structure Gb where
 B : Addr -> Hp -> Nat -> Nat -> (List PyData -> R PyData) -> Prop
 T : Hp
 w : World
structure Ct where
 K : Frag
 mg : Str -> Option Value
 w : World
 F0 : Hp
 H0 : Hp
 g : Gb
 cells : List (Str × Addr)
 cls : Str -> Option ClSt
theorem wZ {w : World} {p : Addr} {es : List Ent} {q : Str} (h : d7 w p es = .cod q) : False := by unfold d7 at h; cases h
theorem bY (H : Hp) : aK H H := fun _ _ h => h
theorem cB {H H' : Hp} (s : aK H H') {a : Addr} (h : H' a = none) : H a = none := by
 cases e : H a with
 | none => rfl
 | some o => rw [s a o e] at h; cases h
def mG (H : Hp) (a : Addr) : Prop := H a = none \/ ∃ q, H a = some (.cod q)
theorem mG.back {H H1 : Hp} {a : Addr} (s : aK H H1) (h : mG H1 a) : mG H a := by
 cases e : H a with
 | none => exact .inl e
 | some o =>
  have e1 := s a o e
  rcases h with z | ⟨q, z⟩
  · rw [e1] at z; cases z
  · rw [e1] at z; cases z; exact .inr ⟨q, e⟩
structure Ext (F H F' H' : Hp) : Prop where
 hh : aK H H'
 ff : aK F F'
 fh : aK F' H'
 nw : ∀ a, F a = none -> F' a ≠ none -> mG H a
theorem Ext.refl {F H : Hp} (h : aK F H) : Ext F H F H := ⟨bY H, bY F, h, fun a e n => absurd e n⟩
theorem Ext.trans {F H F1 H1 F2 H2 : Hp} (a : Ext F H F1 H1) (b : Ext F1 H1 F2 H2) : Ext F H F2 H2 :=
 ⟨fun x o e => b.hh x o (a.hh x o e), fun x o e => b.ff x o (a.ff x o e), b.fh, fun x e n => by
  cases q : F1 x with
  | none => exact (b.nw x q n).back a.hh
  | some o => exact a.nw x e (by rw [q]; exact fun z => nomatch z)⟩
theorem Ext.stay {F H F' H' : Hp} (s : Ext F H F' H') {p : Addr} {o : HO} (h3 : F p = none) (h2 : H p = some o) (hno : ∀ q, o ≠ .cod q) : F' p = none := by
 cases q : F' p with
 | none => rfl
 | some o =>
  rcases s.nw p h3 (by rw [q]; exact fun z => nomatch z) with z | ⟨q', z⟩
  · rw [z] at h2; cases h2
  · rw [z] at h2; cases h2; exact absurd rfl (hno _)
theorem aEE {F H : Hp} {p : Addr} {o : HO} (s : aK F H) : aK (upd F p o) (upd H p o) := fun a u e => by
 by_cases q : a = p
 · subst q; rw [a7] at e ⊢; exact e
 · rw [aQ q] at e ⊢; exact s a u e
theorem Ext.new {F H : Hp} {p : Addr} {o : HO} (s : aK F H) (hp : H p = none) : Ext F H (upd F p o) (upd H p o) :=
 ⟨aK.upd hp, aK.upd (cB s hp), aEE s, fun a e n => by
  by_cases q : a = p
  · subst q; exact .inl hp
  · rw [aQ q] at n; exact absurd e n⟩
theorem Ext.own {F H : Hp} {p : Addr} {o : HO} (s : aK F H) (hp : H p = none) : Ext F H F (upd H p o) :=
 ⟨aK.upd hp, bY F, fun a u e => by
  rw [aQ (bE (s a u e) hp)]; exact s a u e, fun a e n => absurd e n⟩
def j6 (K : Frag) (mg : Str -> Option Value) (F : Hp) (e : Er) (a C : Addr) : Prop := mg e.c = some (.ref C) /\ ∃ od, F a = some (ExO a C od) /\ ((e.fs = [] /\ od = none) \/ ∃ d fvs, od = some d /\ F d = some (.xd fvs) /\ fvs.map (·.1) = e.fs.map (·.1) /\ DatVs K F (fvs.map (·.2)) (e.fs.map (·.2)))
theorem j6.same {K : Frag} {mg : Str -> Option Value} {F F' : Hp} {e : Er} {a C : Addr} (s : aK F F') (h : j6 K mg F e a C) : j6 K mg F' e a C := by
 obtain ⟨m, od, h1, h2⟩ := h
 refine ⟨m, od, s _ _ h1, h2.imp id ?_⟩
 rintro ⟨d, fvs, e1, e2, e3, e4⟩
 exact ⟨d, fvs, e1, s _ _ e2, e3, e4.same s⟩
structure MapRel (K : Frag) (F : Hp) (es : List Ent) (kvs : List (PyData × PyData)) : Prop where
 k1 : es.map (·.1) = kvs.map (·.1)
 k2 : DatVs K F (es.map (·.2.1)) (kvs.map (·.1))
 vs : DatVs K F (es.map (·.2.2)) (kvs.map (·.2))
 nd : (kvs.map (·.1)).Nodup
theorem MapRel.same {K : Frag} {F F' : Hp} {es : List Ent} {kvs : List (PyData × PyData)} (s : aK F F') (h : MapRel K F es kvs) : MapRel K F' es kvs := ⟨h.k1, h.k2.same s, h.vs.same s, h.nd⟩
def AF (g : Gb) (K : Frag) (mg : Str -> Option Value) (F : Hp) : A -> V -> Prop
 | .d x, v => DatV K F v x
 | .x e, v => ∃ a C, v = .ref a /\ j6 K mg F e a C
 | .g k n G, v => ∃ f F1, v = .ref f /\ aK F1 F /\ g.B f F1 k n G
 | .f kvs, v => ∃ p es, v = .ref p /\ F p = some (d7 g.w p es) /\ MapRel K F es kvs
 | _, _ => False
theorem AF.same {g : Gb} {K : Frag} {mg : Str -> Option Value} {F F' : Hp} (s : aK F F') : ∀ {a : A} {v : V}, AF g K mg F a v -> AF g K mg F' a v
 | .d x, v, h => DatV.same s h
 | .x e, v, ⟨a, C, h1, h2⟩ => ⟨a, C, h1, h2.same s⟩
 | .g k n G, v, ⟨f, F1, h1, h2, h3⟩ => ⟨f, F1, h1, fun a o z => s a o (h2 a o z), h3⟩
 | .f kvs, v, ⟨p, es, h1, h2, h3⟩ => ⟨p, es, h1, s _ _ h2, h3.same s⟩
def A.own : A -> Bool
 | .l _ => true
 | .m _ => true
 | _ => false
def AO (c : Ct) (F H : Hp) : A -> V -> Prop
 | .l xs, v => ∃ p vs, v = .ref p /\ H p = some (.lst vs) /\ F p = none /\ c.H0 p = none /\ DatVs c.K F vs xs
 | .m kvs, v => ∃ p es, v = .ref p /\ H p = some (d7 c.w p es) /\ F p = none /\ c.H0 p = none /\ MapRel c.K F es kvs
 | .k q, v => ∃ S f cl doc pm cc ct, c.cls q = some S /\ v = .ref f /\ F f = some (FnO f (S.obj cl doc pm cc ct)) /\ F cc = some (.cod S.qual) /\ ClOf c.cells S.scope cl
 | a, v => AF c.g c.K c.mg F a v
theorem AO.ext {c : Ct} {F H F' H' : Hp} (s : Ext F H F' H') : ∀ {a : A} {v : V}, AO c F H a v -> AO c F' H' a v
 | .d x, v, h => DatV.same s.ff h
 | .x e, v, h => AF.same (g := c.g) (K := c.K) (mg := c.mg) (a := .x e) s.ff h
 | .g k n G, v, h => AF.same (g := c.g) (K := c.K) (mg := c.mg) (a := .g k n G) s.ff h
 | .f kvs, v, h => AF.same (g := c.g) (K := c.K) (mg := c.mg) (a := .f kvs) s.ff h
 | .k q, v, ⟨S, f, cl, doc, pm, cc, ct, h0, h1, h2, h3, h4⟩ => ⟨S, f, cl, doc, pm, cc, ct, h0, h1, s.ff _ _ h2, s.ff _ _ h3, h4⟩
 | .l xs, v, ⟨p, vs, h1, h2, h3, h4, h5⟩ => ⟨p, vs, h1, s.hh _ _ h2, s.stay h3 h2 (fun _ z => nomatch z), h4, h5.same s.ff⟩
 | .m kvs, v, ⟨p, vs, h1, h2, h3, h4, h5⟩ => ⟨p, vs, h1, s.hh _ _ h2, s.stay h3 h2 (fun _ z => wZ z), h4, h5.same s.ff⟩
theorem AO.at {c : Ct} {F H : Hp} {a : A} {v : V} (h : AO c F H a v) (o : a.own = true) : ∃ p o, v = .ref p /\ H p = some o /\ F p = none /\ c.H0 p = none := by
 cases a with
 | l xs => obtain ⟨p, vs, h1, h2, h3, h4, h5⟩ := h; exact ⟨p, _, h1, h2, h3, h4⟩
 | m xs => obtain ⟨p, vs, h1, h2, h3, h4, h5⟩ := h; exact ⟨p, _, h1, h2, h3, h4⟩
 | d x => cases o
 | x e => cases o
 | g k n f => cases o
 | k S => cases o
 | f S => cases o
theorem AO.off {c : Ct} {F H : Hp} {p : Addr} {o : HO} : ∀ {a : A} {v : V}, AO c F H a v -> v ≠ .ref p -> AO c F (upd H p o) a v
 | .l xs, v, ⟨q, vs, h1, h2, h3, h4, h5⟩, n => ⟨q, vs, h1, by rw [aQ (fun z => n (by rw [h1, z]))]; exact h2, h3, h4, h5⟩
 | .m xs, v, ⟨q, vs, h1, h2, h3, h4, h5⟩, n => ⟨q, vs, h1, by rw [aQ (fun z => n (by rw [h1, z]))]; exact h2, h3, h4, h5⟩
 | .d x, v, h, _ => h
 | .x e, v, h, _ => h
 | .g k n G, v, h, _ => h
 | .k S, v, h, _ => h
 | .f S, v, h, _ => h
structure Ab (c : Ct) (ρ : Sg) (σ : L2.St) (F H : Hp) : Prop where
 len : ρ.length = σ.length
 fh : aK F H
 slot : ∀ (i : Nat) (a : A), ρ[i]? = some (some a) -> ∃ v, σ[i]? = some (some v) /\ AO c F H a v
 apart : ∀ (i j : Nat) (a b : A), i ≠ j -> ρ[i]? = some (some a) -> ρ[j]? = some (some b) -> a.own = true -> b.own = true -> σ[i]? ≠ σ[j]?
 f0 : aK c.F0 F
 h0 : aK c.H0 H
 n0 : ∀ a, c.F0 a = none -> F a ≠ none -> mG c.H0 a
 t0 : aK c.g.T c.F0
theorem Ab.all {c : Ct} {ρ : Sg} {σ : L2.St} {F H : Hp} (b : Ab c ρ σ F H) : Ext c.F0 c.H0 F H := ⟨b.h0, b.f0, b.fh, b.n0⟩
theorem Ab.ext {c : Ct} {ρ : Sg} {σ : L2.St} {F H F' H' : Hp} (b : Ab c ρ σ F H) (e : Ext F H F' H') : Ab c ρ σ F' H' where
 len := b.len
 fh := e.fh
 slot := fun i a h => let ⟨v, h1, h2⟩ := b.slot i a h; ⟨v, h1, h2.ext e⟩
 apart := b.apart
 f0 := fun x o h => e.ff x o (b.f0 x o h)
 h0 := fun x o h => e.hh x o (b.h0 x o h)
 n0 := fun a h n => by
  cases q : F a with
  | none => exact (e.nw a q n).back b.h0
  | some o => exact b.n0 a h (by rw [q]; exact fun z => nomatch z)
 t0 := b.t0
def XW (c : Ct) (E : XK) (e : Er) : Prop := ∀ a C F' H', Ext c.F0 c.H0 F' H' -> j6 c.K c.mg F' e a C -> E (.ref C) (some a) H'
def Rk {α : Type} (c : Ct) (E : XK) (F H : Hp) (r : R α) (k : α -> Prop) : Prop := match r with
 | .bad => False
 | .ok a => k a
 | .ex e => XW c E e
abbrev VR (α : Type) := α -> V -> Hp -> Hp -> Hp -> Prop
def tV {α : Type} (Rel : VR α) (c : Ct) (E : XK) (f : Sg -> R α) : TE := fun σ H Q => ∃ ρ F, Ab c ρ σ F H /\ Rk c E F H (f ρ) fun d => ∀ v F' H', Ext F H F' H' -> Rel d v H F' H' -> Q v H'
def cW (c : Ct) : VR PyData := fun d v _ F _ => DatV c.K F v d
def bA (K : Frag) (F H : Hp) (v : V) (d : PyData) : Prop := DatV K F v d \/ ∃ p vs xs, v = .ref p /\ d = .list xs /\ H p = some (.lst vs) /\ DatVs K F vs xs
def bO (c : Ct) : VR PyData := fun d v _ F H => bA c.K F H v d
def aEF (c : Ct) : VR A := fun a v _ F _ => AF c.g c.K c.mg F a v
def aA4 (c : Ct) : VR (List PyData) := fun xs v H F H' => ∃ p vs, v = .ref p /\ H p = none /\ H' p = some (.lst vs) /\ F p = none /\ DatVs c.K F vs xs
abbrev PD (X : Cx) (c : Ct) (E : XK) (e : Expr) (f : Sg -> R PyData) : Prop := PE X e (tV (cW c) c E f)
abbrev PR (X : Cx) (c : Ct) (E : XK) (e : Expr) (f : Sg -> R PyData) : Prop := PE X e (tV (bO c) c E f)
abbrev PV (X : Cx) (c : Ct) (E : XK) (e : Expr) (f : Sg -> R A) : Prop := PE X e (tV (aEF c) c E f)
abbrev PN (X : Cx) (c : Ct) (E : XK) (e : Expr) (f : Sg -> R (List PyData)) : Prop := PE X e (tV (aA4 c) c E f)
theorem PE.imp {X : Cx} {e : Expr} {t t' : TE} (h : PE X e t) (i : ∀ σ H Q, t' σ H Q -> t σ H Q) : PE X e t' := fun pins s σ H Q I q => h pins s σ H Q I (i σ H Q q)
theorem PT.imp {X : Cx} {e : Expr} {t t' : TT} (h : PT X e t) (i : ∀ σ H Q, t' σ H Q -> t σ H Q) : PT X e t' := fun pins s σ H Q I q => h pins s σ H Q I (i σ H Q q)
theorem PS.imp {X : Cx} {e : Stmt} {t t' : TS} (h : PS X e t) (i : ∀ D σ H, t' D σ H -> t D σ H) : PS X e t' := fun pins s σ H D I q => h pins s σ H D I (i D σ H q)
theorem PSs.imp {X : Cx} {e : List Stmt} {t t' : TS} (h : PSs X e t) (i : ∀ D σ H, t' D σ H -> t D σ H) : PSs X e t' := fun pins s σ H D I q => h pins s σ H D I (i D σ H q)
def aFX {α : Type} (Rel : VR α) : Prop := ∀ d v H F H1 F2 H2, Ext F H1 F2 H2 -> Rel d v H F H1 -> Rel d v H F2 H2
theorem bA.ext {K : Frag} {F H F' H' : Hp} {v : V} {d : PyData} (e : Ext F H F' H') (h : bA K F H v d) : bA K F' H' v d := by
 rcases h with h | ⟨p, vs, xs, h1, h2, h3, h4⟩
 · exact .inl (h.same e.ff)
 · exact .inr ⟨p, vs, xs, h1, h2, e.hh _ _ h3, h4.same e.ff⟩
theorem tG (c : Ct) : aFX (bO c) := fun d v H F H1 F2 H2 e h => bA.ext e h
theorem bA.heap {K : Frag} {F H : Hp} {v : V} {d : PyData} (s : aK F H) (h : bA K F H v d) : DatV K H v d := by
 rcases h with h | ⟨p, vs, xs, h1, h2, h3, h4⟩
 · exact h.same s
 · subst h1 h2; exact .lst (SqL.of h3) (h4.same s)
section
variable {X : Cx} {c : Ct} {E : XK} {α β γ : Type} {Ra : VR α} {Rb : VR β} {Rc : VR γ} {σ : L2.St} {H : Hp} {Q : VK}
theorem Rk.ok {F : Hp} {a : α} {k : α -> Prop} (h : Rk c E F H (.ok a) k) : k a := h
theorem Rk.imp {F : Hp} {r : R α} {k k' : α -> Prop} (h : Rk c E F H r k) (i : ∀ a, r = .ok a -> k a -> k' a) : Rk c E F H r k' := by
 cases r with
 | bad => exact h
 | ok a => exact i a rfl h
 | ex e => exact h
theorem Rk.bind {F : Hp} {r : R α} {f : α -> R β} {k : β -> Prop} (h : Rk c E F H (r.bind f) k) : Rk c E F H r fun a => Rk c E F H (f a) k := by
 cases r with
 | bad => exact h
 | ok a => exact h
 | ex e => exact h
theorem Rk.ext {F F' H' : Hp} {r : R α} {k : α -> Prop} (e : Ext F H F' H') (h : Rk c E F H r k) : Rk c E F' H' r k := by
 cases r with
 | bad => exact h
 | ok a => exact h
 | ex x => exact h
end
def aA5 {α : Type} (Rel : VR α) : Prop := ∀ d v H H1 F' H', aK H H1 -> Rel d v H1 F' H' -> Rel d v H F' H'
theorem lE (c : Ct) : aA5 (cW c) := fun _ _ _ _ _ _ _ h => h
section
variable {X : Cx} {c : Ct} {E : XK} {α β γ : Type} {Ra : VR α} {Rb : VR β} {Rc : VR γ}
def Op1 (c : Ct) (Ra : VR α) (Rb : VR β) (g : α -> R β) (r : V -> Hp -> VK -> Prop) : Prop :=
 ∀ (H0 F H : Hp) (a : α) (b : β) (v : V) (Q : VK), aK F H -> Ra a v H0 F H -> g a = .ok b -> (∀ w F' H', Ext F H F' H' -> Rb b w H F' H' -> Q w H') -> r v H Q
def Op2 (c : Ct) (Ra : VR α) (Rb : VR β) (Rc : VR γ) (g : α -> β -> R γ) (r : R2) : Prop :=
 ∀ (H0 H1 F H : Hp) (a : α) (b : β) (d : γ) (v u : V) (Q : VK), aK F H -> Ra a v H0 F H -> Rb b u H1 F H -> g a b = .ok d -> (∀ w F' H', Ext F H F' H' -> Rc d w H F' H' -> Q w H') -> r v u H Q
def m8 (g : α -> R β) : Prop := ∀ a e, g a ≠ .ex e
def dO (g : α -> β -> R γ) : Prop := ∀ a b e, g a b ≠ .ex e
theorem tV1 {f : Sg -> R α} {g : α -> R β} {r : V -> Hp -> VK -> Prop} (ho : Op1 c Ra Rb g r) (hp : m8 g) (kb : aA5 Rb) {σ : L2.St} {H : Hp} {Q : VK} (h : tV Rb c E (fun ρ => (f ρ).bind g) σ H Q) :
  tV Ra c E f σ H fun v H1 => r v H1 Q := by
 obtain ⟨ρ, F, ab, h⟩ := h
 refine ⟨ρ, F, ab, (Rk.bind h).imp fun a ea q v F1 H1 e1 rv => ?_⟩
 cases eg : g a with
 | bad => rw [eg] at q; exact q.elim
 | ex e => exact absurd eg (hp a e)
 | ok b =>
  rw [eg] at q
  exact ho H F1 H1 a b v Q e1.fh rv eg fun w F' H' e2 rw' => q w F' H' (e1.trans e2) (kb _ _ _ _ _ _ e1.hh rw')
theorem tV2 {f : Sg -> R α} {f' : Sg -> R β} {g : α -> β -> R γ} {r : R2} (ho : Op2 c Ra Rb Rc g r) (hp : dO g) (ka : aFX Ra) (kb : aA5 Rc) {σ : L2.St} {H : Hp} {Q : VK} (h : tV Rc c E (fun ρ => (f ρ).bind fun a => (f' ρ).bind fun b => g a b) σ H Q) :
  tOp r (tV Ra c E f) (tV Rb c E f') σ H Q := by
 obtain ⟨ρ, F, ab, h⟩ := h
 refine ⟨ρ, F, ab, (Rk.bind h).imp fun a ea q v F1 H1 e1 rv => ?_⟩
 refine ⟨ρ, F1, ab.ext e1, ((Rk.bind q).ext e1).imp fun b eb q u F2 H2 e2 ru => ?_⟩
 cases eg : g a b with
 | bad => rw [eg] at q; exact q.elim
 | ex e => exact absurd eg (hp a b e)
 | ok d =>
  rw [eg] at q
  exact ho H H1 F2 H2 a b d v u Q e2.fh (ka _ _ _ _ _ _ _ e2 rv) ru eg fun w F' H' e3 rw' => q w F' H' ((e1.trans e2).trans e3) (kb _ _ _ _ _ _ (fun x o z => e2.hh x o (e1.hh x o z)) rw')
end
end Fl
namespace Fl
open PySem L2 PyProof.Rows
section
variable {K : Frag} {F H : Hp} {v : V}
theorem DatV.bl_of {b : Bool} (h : DatV K H v (.bool b)) : v = .bl b := by cases h; rfl
theorem DatV.non_of (h : DatV K H v .none) : v = .non := by cases h; rfl
theorem bA.int_of {i : Int} (h : bA K F H v (.int i)) : v = .int i := by
 rcases h with h | ⟨_, _, _, _, h, _⟩
 · exact h.int_of
 · cases h
theorem bA.str_of {i : Str} (h : bA K F H v (.str i)) : v = .str i := by
 rcases h with h | ⟨_, _, _, _, h, _⟩
 · exact h.str_of
 · cases h
theorem bA.bl_of {i : Bool} (h : bA K F H v (.bool i)) : v = .bl i := by
 rcases h with h | ⟨_, _, _, _, h, _⟩
 · exact DatV.bl_of h
 · cases h
theorem bA.non_of (h : bA K F H v .none) : v = .non := by
 rcases h with h | ⟨_, _, _, _, h, _⟩
 · exact DatV.non_of h
 · cases h
theorem bA.tup_of {xs : List PyData} (s : aK F H) (h : bA K F H v (.tuple xs)) : ∃ a vs, v = .ref a /\ SqT K F a vs /\ SqT K H a vs /\ DatVs K F vs xs := by
 rcases h with h | ⟨_, _, _, _, h, _⟩
 ·obtain ⟨a, vs, h1, h2, h3⟩ := h.tup_of
  exact ⟨a, vs, h1, h2, h2.same s, h3⟩
 ·cases h
theorem bA.lst_of {xs : List PyData} (s : aK F H) (h : bA K F H v (.list xs)) : ∃ a vs, v = .ref a /\ SqL K H a vs /\ DatVs K F vs xs := by
 rcases h with h | ⟨p, vs, ys, h1, h2, h3, h4⟩
 ·obtain ⟨a, vs, h1, h2, h3⟩ := h.lst_of
  exact ⟨a, vs, h1, h2.same s, h3⟩
 ·cases h2
  exact ⟨p, vs, h1, SqL.of h3, h4⟩
theorem w4 {vs : List V} {xs : List PyData} {i : Int} {d : PyData} (h : DatVs K F vs xs) (e : atI xs i = some d) : ∃ x, atI vs i = some x /\ DatV K F x d := by
 unfold atI at e ⊢
 rw [h.length]
 cases q : ixN xs.length i with
 | none => rw [q] at e; cases e
 | some j =>
  rw [q] at e
  exact h.get' (i := j) e
end
def eV (i : Nat) : Sg -> R PyData := fun ρ => match ρ[i]? with
 | some (some (.d x)) => .ok x
 | _ => .bad
def rV (i : Nat) : Sg -> R PyData := fun ρ => match ρ[i]? with
 | some (some (.d x)) => .ok x
 | some (some (.l xs)) => .ok (.list xs)
 | _ => .bad
def vV (i : Nat) : Sg -> R A := fun ρ => match ρ[i]? with
 | some (some (.d x)) => .ok (.d x)
 | some (some (.x e)) => .ok (.x e)
 | some (some (.g k n f)) => .ok (.g k n f)
 | some (some (.f kvs)) => .ok (.f kvs)
 | _ => .bad
def eC (d : PyData) : Sg -> R PyData := fun _ => .ok d
section
variable {X : Cx} {c : Ct} {E : XK} {e a b : Expr}
theorem bK {i : Nat} (h : PE X e (jN i)) : PD X c E e (eV i) := PE.imp h fun σ H Q ⟨ρ, F, ab, k⟩ => by
 unfold eV at k
 split at k
 ·rename_i x hx
  obtain ⟨v, h1, h2⟩ := ab.slot i _ hx
  exact ⟨v, h1, k v F H (Ext.refl ab.fh) h2⟩
 ·exact k.elim
theorem aC {i : Nat} (h : PE X e (jN i)) : PR X c E e (rV i) := PE.imp h fun σ H Q ⟨ρ, F, ab, k⟩ => by
 unfold rV at k
 split at k
 ·rename_i x hx
  obtain ⟨v, h1, h2⟩ := ab.slot i _ hx
  exact ⟨v, h1, k v F H (Ext.refl ab.fh) (.inl h2)⟩
 ·rename_i x hx
  obtain ⟨v, h1, p, vs, h2, h3, h4, h5, h6⟩ := ab.slot i _ hx
  exact ⟨v, h1, k v F H (Ext.refl ab.fh) (.inr ⟨p, vs, x, h2, rfl, h3, h6⟩)⟩
 ·exact k.elim
theorem aW {i : Nat} (h : PE X e (jN i)) : PV X c E e (vV i) := PE.imp h fun σ H Q ⟨ρ, F, ab, k⟩ => by
 unfold vV at k
 split at k
 ·rename_i x hx
  obtain ⟨v, h1, h2⟩ := ab.slot i _ hx
  exact ⟨v, h1, k v F H (Ext.refl ab.fh) h2⟩
 ·rename_i x hx
  obtain ⟨v, h1, h2⟩ := ab.slot i _ hx
  exact ⟨v, h1, k v F H (Ext.refl ab.fh) h2⟩
 ·rename_i kk nn ff hx
  obtain ⟨v, h1, h2⟩ := ab.slot i _ hx
  exact ⟨v, h1, k v F H (Ext.refl ab.fh) h2⟩
 ·rename_i kvs hx
  obtain ⟨v, h1, h2⟩ := ab.slot i _ hx
  exact ⟨v, h1, k v F H (Ext.refl ab.fh) h2⟩
 ·exact k.elim
theorem i5 {v : V} {d : PyData} (h : PE X e (tC v)) (hd : ∀ F, DatV c.K F v d) : PD X c E e (eC d) := PE.imp h fun σ H Q ⟨ρ, F, ab, k⟩ => k v F H (Ext.refl ab.fh) (hd F)
theorem aF {i j pos} : PD X c E (.Constant (.int i) j pos) (eC (.int i)) := i5 aIP fun _ => .int i
theorem mH {i j pos} : PD X c E (.Constant (.bool i) j pos) (eC (.bool i)) := i5 aLS fun _ => .bl i
theorem eI {i j pos} : PD X c E (.Constant (.str i) j pos) (eC (.str i)) := i5 wG fun _ => .str i
theorem m9 {j pos} : PD X c E (.Constant .none j pos) (eC .none) := i5 aIQ fun _ => .non
theorem aB {f : Sg -> R PyData} (h : PD X c E e f) : PR X c E e f := PE.imp h fun σ H Q ⟨ρ, F, ab, k⟩ => ⟨ρ, F, ab, k.imp fun d _ q v F' H' s r => q v F' H' s (.inl r)⟩
def vD (f : Sg -> R PyData) : Sg -> R A := fun ρ => (f ρ).bind fun x => .ok (.d x)
theorem aT {f : Sg -> R PyData} (h : PD X c E e f) : PV X c E e (vD f) := PE.imp h fun σ H Q ⟨ρ, F, ab, k⟩ => ⟨ρ, F, ab, (Rk.bind k).imp fun d _ q v F' H' s r => Rk.ok q v F' H' s r⟩
def getD : A -> R PyData
 | .d x => .ok x
 | _ => .bad
def eA (f : Sg -> R A) : Sg -> R PyData := fun ρ => (f ρ).bind getD
theorem cX {f : Sg -> R A} (h : PV X c E e f) : PD X c E e (eA f) := PE.imp h fun σ H Q ⟨ρ, F, ab, k⟩ => ⟨ρ, F, ab, (Rk.bind k).imp fun d _ q v F' H' s r => by
 cases d with
 | d x => exact Rk.ok q v F' H' s r
 | _ => exact False.elim q⟩
def eL (f : Sg -> R (List PyData)) : Sg -> R PyData := fun ρ => (f ρ).bind fun xs => .ok (.list xs)
theorem gN {f : Sg -> R (List PyData)} (h : PN X c E e f) : PD X c E e (eL f) := PE.imp h fun σ H Q ⟨ρ, F, ab, k⟩ => ⟨ρ, F, ab, (Rk.bind k).imp fun xs _ q v F' H' s r => by
 obtain ⟨p, vs, h1, h2, h3, h4, h5⟩ := r
 subst h1
 refine Rk.ok q (.ref p) (upd F' p (.lst vs)) H' ⟨s.hh, fun a o z => ?_, fun a o z => ?_, fun a z n => ?_⟩ (.lst (SqL.of a7) (h5.same (aK.upd h4)))
 ·rw [aQ (bE (s.ff a o z) h4)]; exact s.ff a o z
 ·by_cases w : a = p
  · subst w; rw [a7] at z; rw [h3]; exact z
  · rw [aQ w] at z; exact s.fh a o z
 ·by_cases w : a = p
  · subst w; exact .inl h2
  · rw [aQ w] at n; exact s.nw a z n⟩
def e1 {α β : Type} (g : α -> R β) (f : Sg -> R α) : Sg -> R β := fun ρ => (f ρ).bind g
def e2 {α β γ : Type} (g : α -> β -> R γ) (f : Sg -> R α) (f' : Sg -> R β) : Sg -> R γ := fun ρ => (f ρ).bind fun x => (f' ρ).bind fun y => g x y
def cN : PyData -> PyData -> R PyData
 | .int i, .int j => .ok (.int (i + j))
 | .str x, .str y => if x.length + y.length <= sizeLine then .ok (.str (x ++ y)) else .bad
 | .tuple xs, .tuple ys => if xs.isEmpty = false /\ xs.length + ys.length <= sizeLine then .ok (.tuple (xs ++ ys)) else .bad
 | _, _ => .bad
def dSub : PyData -> PyData -> R PyData
 | .int i, .int j => .ok (.int (i - j))
 | _, _ => .bad
def dMul : PyData -> PyData -> R PyData
 | .int i, .int j => if (-18446744073709551616 < i /\ i < 18446744073709551616) \/ (-18446744073709551616 < j /\ j < 18446744073709551616) then .ok (.int (i * j)) else .bad
 | _, _ => .bad
def dDiv : PyData -> PyData -> R PyData
 | .int i, .int j => if 0 < j /\ j < 18446744073709551616 then .ok (.int (i / j)) else .bad
 | _, _ => .bad
def dMod : PyData -> PyData -> R PyData
 | .int i, .int j => if 0 < j then .ok (.int (i % j)) else .bad
 | _, _ => .bad
def dNeg : PyData -> R PyData
 | .int i => .ok (.int (-i))
 | _ => .bad
def dLt : PyData -> PyData -> R PyData
 | .int i, .int j => .ok (.bool (decide (i < j)))
 | _, _ => .bad
def dLe : PyData -> PyData -> R PyData
 | .int i, .int j => .ok (.bool (decide (i <= j)))
 | _, _ => .bad
def dGt : PyData -> PyData -> R PyData
 | .int i, .int j => .ok (.bool (decide (j < i)))
 | _, _ => .bad
def dGe : PyData -> PyData -> R PyData
 | .int i, .int j => .ok (.bool (decide (j <= i)))
 | _, _ => .bad
def dEq (x y : PyData) : R PyData := if SeqAt.shaped x = true /\ SeqAt.shaped y = true then .ok (.bool (PyData.eqv x y)) else .bad
def dNe (x y : PyData) : R PyData := if SeqAt.shaped x = true /\ SeqAt.shaped y = true then .ok (.bool (!PyData.eqv x y)) else .bad
def g4 : PyData -> Bool
 | .none => true
 | _ => false
def dIs (x y : PyData) : R PyData := if g4 y = true then .ok (.bool (g4 x)) else .bad
def dIsnt (x y : PyData) : R PyData := if g4 y = true then .ok (.bool (!g4 x)) else .bad
def dIx : PyData -> PyData -> R PyData
 | .list xs, .int i => match atI xs i with
  | some v => .ok v
  | none => .bad
 | .tuple xs, .int i => match atI xs i with
  | some v => .ok v
  | none => .bad
 | .str z, .int i => if z.length <= sizeLine then match atI z.cps.toList i with
  | some u => .ok (.str ⟨#[u]⟩)
  | none => .bad else .bad
 | _, _ => .bad
end
end Fl
namespace Fl
open PySem L2 PyProof.Rows
section
variable {X : Cx} {c : Ct} {E : XK} {e a b : Expr} {α β γ : Type} {Ra : VR α} {Rb : VR β} {Rc : VR γ} {pos : Pos}
def r2D (Ra : VR α) (Rb : VR β) (Rc : VR γ) (g : α -> β -> R γ) : R2 := fun v u H Q => ∃ H0 H1 F a b d, aK F H /\ Ra a v H0 F H /\ Rb b u H1 F H /\ g a b = .ok d /\ ∀ w F' H', Ext F H F' H' -> Rc d w H F' H' -> Q w H'
def r1D (Ra : VR α) (Rb : VR β) (g : α -> R β) : V -> Hp -> VK -> Prop := fun v H Q => ∃ H0 F a b, aK F H /\ Ra a v H0 F H /\ g a = .ok b /\ ∀ w F' H', Ext F H F' H' -> Rb b w H F' H' -> Q w H'
theorem v9 {g : α -> β -> R γ} : Op2 c Ra Rb Rc g (r2D Ra Rb Rc g) := fun H0 H1 F H a b d v u Q sf ra rb eg q => ⟨H0, H1, F, a, b, d, sf, ra, rb, eg, q⟩
theorem wA {g : α -> R β} : Op1 c Ra Rb g (r1D Ra Rb g) := fun H0 F H a b v Q sf ra eg q => ⟨H0, F, a, b, sf, ra, eg, q⟩
theorem aU {op : Operator} {g : PyData -> PyData -> R PyData} {fa fb : Sg -> R PyData} (ho : OpR X (binaryOp op) (r2D (bO c) (bO c) (cW c) g)) (hp : dO g) (ha : PR X c E a fa) (hb : PR X c E b fb) : PD X c E (.BinOp a op b pos) (e2 g fa fb) :=
 PE.imp (aLV ho ha hb) fun σ H Q h => tV2 v9 hp (tG c) (lE c) h
theorem wC {op : UnaryOp} {g : PyData -> R PyData} {fa : Sg -> R PyData} (ho : UnR X (unaryOp op) (r1D (bO c) (cW c) g)) (hp : m8 g) (ha : PR X c E a fa) : PD X c E (.UnaryOp op a pos) (e1 g fa) :=
 PE.imp (aLW ho ha) fun σ H Q h => tV1 wA hp (lE c) h
theorem lV {op : CmpOp} {g : PyData -> PyData -> R PyData} {fa fb : Sg -> R PyData} (ho : OpR X (compareOp op) (r2D (bO c) (bO c) (cW c) g)) (hp : dO g) (ha : PR X c E a fa) (hb : PR X c E b fb) (hm : behindInMarks op b = false) : PD X c E (.Compare a [op] [b] pos) (e2 g fa fb) :=
 PE.imp (aGD ho ha hb hm) fun σ H Q h => tV2 v9 hp (tG c) (lE c) h
theorem bB {g : PyData -> PyData -> R PyData} {fa fb : Sg -> R PyData} (ho : IxR X (r2D (bO c) (bO c) (cW c) g)) (hp : dO g) (ha : PR X c E a fa) (hb : PR X c E b fb) (hs : y6 b := by exact fun _ _ => rfl) : PD X c E (.Subscript a b pos) (e2 g fa fb) :=
 PE.imp (L2.aL3 ho ha hb hs) fun σ H Q h => tV2 v9 hp (tG c) (lE c) h
theorem dI (hK : X.K = c.K) : OpR X (binaryOp .Add) (r2D (bO c) (bO c) (cW c) cN) := by
 intro pins s σ H v u x y Q I rx ry h
 obtain ⟨H0, H1, F, a, b, d, sf, ra, rb, eg, q⟩ := h
 unfold cN at eg
 split at eg
 ·rename_i i j
  cases eg
  obtain rfl := bA.int_of ra
  obtain rfl := bA.int_of rb
  exact aI0 pins s σ H _ _ x y Q I rx ry ⟨i, j, rfl, rfl, q _ F H (Ext.refl sf) (.int _)⟩
 ·rename_i i j
  split at eg
  ·rename_i hz
   cases eg
   obtain rfl := bA.str_of ra
   obtain rfl := bA.str_of rb
   exact aAR pins s σ H _ _ x y Q I rx ry ⟨i, j, rfl, rfl, hz, q _ F H (Ext.refl sf) (.str _)⟩
  ·cases eg
 ·rename_i xs ys
  split at eg
  ·rename_i hz
   cases eg
   obtain ⟨pa, vs, rfl, fa, ha, da⟩ := bA.tup_of sf ra
   obtain ⟨pb, us, rfl, fb, hb, db⟩ := bA.tup_of sf rb
   rw [<- hK] at ha hb
   refine aGK pins s σ H _ _ x y Q I rx ry ⟨pa, pb, vs, us, rfl, rfl, ha, hb, ?_, by rw [da.length, db.length]; exact hz.2, fun z => ?_, fun z p hp => ?_⟩
   ·intro z; subst z; obtain rfl : xs = [] := by cases da; rfl
    exact absurd hz.1 (by decide)
   ·subst z
    obtain rfl : ys = [] := by cases db; rfl
    exact q _ F H (Ext.refl sf) (by rw [List.append_nil]; exact .tup fa da)
   ·exact q _ _ _ (Ext.new sf hp) (.tup (SqT.of a7) ((da.append db).same (aK.upd (cB sf hp))))
  ·cases eg
 ·cases eg
theorem cK : dO cN := by
 intro a b e h
 unfold cN at h
 split at h <;> (try split at h) <;> cases h
theorem kQ {f : Value -> Value -> Sem Value} {g : PyData -> PyData -> R PyData} {C : Int -> Int -> Prop} {k : Int -> Int -> PyData} {kv : Int -> Int -> V} (ho : OpR X f (rI C kv)) (hk : ∀ i j F, DatV c.K F (kv i j) (k i j))
  (hg : ∀ a b d, g a b = .ok d -> ∃ i j, a = .int i /\ b = .int j /\ C i j /\ d = k i j) : OpR X f (r2D (bO c) (bO c) (cW c) g) := by
 intro pins s σ H v u x y Q I rx ry h
 obtain ⟨H0, H1, F, a, b, d, sf, ra, rb, eg, q⟩ := h
 obtain ⟨i, j, rfl, rfl, hc, rfl⟩ := hg a b d eg
 obtain rfl := bA.int_of ra
 obtain rfl := bA.int_of rb
 exact ho pins s σ H _ _ x y Q I rx ry ⟨i, j, rfl, rfl, hc, q _ F H (Ext.refl sf) (hk i j F)⟩
theorem tH {f : Value -> Value -> Sem Value} {kv : Int -> Int -> V} (ho : OpR X f (rI0 kv)) : OpR X f (rI (fun _ _ => True) kv) := fun pins s σ H x y v u Q I rx ry ⟨i, j, h1, h2, _, q⟩ => ho pins s σ H x y v u Q I rx ry ⟨i, j, h1, h2, q⟩
theorem nA : OpR X (binaryOp .Sub) (r2D (bO c) (bO c) (cW c) dSub) := kQ (tH aI1) (fun _ _ _ => .int _) fun a b d h => by
 unfold dSub at h; split at h
 · cases h; exact ⟨_, _, rfl, rfl, trivial, rfl⟩
 · cases h
theorem iG : OpR X (binaryOp .Mult) (r2D (bO c) (bO c) (cW c) dMul) := kQ aI2 (fun _ _ _ => .int _) fun a b d h => by
 unfold dMul at h; split at h
 ·split at h
  · rename_i hc; cases h; exact ⟨_, _, rfl, rfl, hc, rfl⟩
  · cases h
 ·cases h
theorem f8 : OpR X (binaryOp .FloorDiv) (r2D (bO c) (bO c) (cW c) dDiv) := kQ aD2 (fun _ _ _ => .int _) fun a b d h => by
 unfold dDiv at h; split at h
 ·split at h
  · rename_i hc; cases h; exact ⟨_, _, rfl, rfl, hc, rfl⟩
  · cases h
 ·cases h
theorem cP : OpR X (binaryOp .Mod) (r2D (bO c) (bO c) (cW c) dMod) := kQ aI3 (fun _ _ _ => .int _) fun a b d h => by
 unfold dMod at h; split at h
 ·split at h
  · rename_i hc; cases h; exact ⟨_, _, rfl, rfl, hc, rfl⟩
  · cases h
 ·cases h
theorem w6 : OpR X (compareOp .Lt) (r2D (bO c) (bO c) (cW c) dLt) := kQ (tH aLX) (fun _ _ _ => .bl _) fun a b d h => by
 unfold dLt at h; split at h
 · cases h; exact ⟨_, _, rfl, rfl, trivial, rfl⟩
 · cases h
theorem aJR : OpR X (compareOp .LtE) (r2D (bO c) (bO c) (cW c) dLe) := kQ (tH aLY) (fun _ _ _ => .bl _) fun a b d h => by
 unfold dLe at h; split at h
 · cases h; exact ⟨_, _, rfl, rfl, trivial, rfl⟩
 · cases h
theorem jR : OpR X (compareOp .Gt) (r2D (bO c) (bO c) (cW c) dGt) := kQ (tH aLZ) (fun _ _ _ => .bl _) fun a b d h => by
 unfold dGt at h; split at h
 · cases h; exact ⟨_, _, rfl, rfl, trivial, rfl⟩
 · cases h
theorem aJS : OpR X (compareOp .GtE) (r2D (bO c) (bO c) (cW c) dGe) := kQ (tH aL0) (fun _ _ _ => .bl _) fun a b d h => by
 unfold dGe at h; split at h
 · cases h; exact ⟨_, _, rfl, rfl, trivial, rfl⟩
 · cases h
theorem kR : dO dSub := by intro a b e h; unfold dSub at h; split at h <;> cases h
theorem fF : dO dMul := by intro a b e h; unfold dMul at h; split at h <;> (try split at h) <;> cases h
theorem d8 : dO dDiv := by intro a b e h; unfold dDiv at h; split at h <;> (try split at h) <;> cases h
theorem bS : dO dMod := by intro a b e h; unfold dMod at h; split at h <;> (try split at h) <;> cases h
theorem rT : dO dLt := by intro a b e h; unfold dLt at h; split at h <;> cases h
theorem aEG : dO dLe := by intro a b e h; unfold dLe at h; split at h <;> cases h
theorem gF : dO dGt := by intro a b e h; unfold dGt at h; split at h <;> cases h
theorem aEH : dO dGe := by intro a b e h; unfold dGe at h; split at h <;> cases h
theorem eY : dO dEq := by intro a b e h; unfold dEq at h; split at h <;> cases h
theorem aEI : dO dNe := by intro a b e h; unfold dNe at h; split at h <;> cases h
theorem w8 : dO dIs := by intro a b e h; unfold dIs at h; split at h <;> cases h
theorem aA6 : dO dIsnt := by intro a b e h; unfold dIsnt at h; split at h <;> cases h
theorem mI : m8 dNeg := by intro a e h; unfold dNeg at h; split at h <;> cases h
theorem aR : dO dIx := by
 intro a b e h
 unfold dIx at h
 split at h <;> (try split at h) <;> (try split at h) <;> cases h
theorem qG : UnR X (unaryOp .USub) (r1D (bO c) (cW c) dNeg) := by
 intro pins s σ H v x Q I rx h
 obtain ⟨H0, F, a, d, sf, ra, eg, q⟩ := h
 unfold dNeg at eg
 split at eg
 ·rename_i i
  cases eg
  obtain rfl := bA.int_of ra
  exact aI4 pins s σ H _ x Q I rx ⟨i, rfl, q _ F H (Ext.refl sf) (.int _)⟩
 ·cases eg
theorem hJ (hK : X.K = c.K) (hu : X.A.units + 64 < cLine) : OpR X (compareOp .Eq) (r2D (bO c) (bO c) (cW c) dEq) := by
 intro pins s σ H v u x y Q I rx ry h
 obtain ⟨H0, H1, F, a, b, d, sf, ra, rb, eg, q⟩ := h
 unfold dEq at eg
 split at eg
 ·rename_i hs
  cases eg
  exact aJE hu pins s σ H _ _ x y Q I rx ry ⟨a, b, by rw [hK]; exact bA.heap sf ra, by rw [hK]; exact bA.heap sf rb, hs.1, hs.2, q _ F H (Ext.refl sf) (.bl _)⟩
 ·cases eg
theorem aJT (hK : X.K = c.K) (hu : X.A.units + 64 < cLine) : OpR X (compareOp .NotEq) (r2D (bO c) (bO c) (cW c) dNe) := by
 intro pins s σ H v u x y Q I rx ry h
 obtain ⟨H0, H1, F, a, b, d, sf, ra, rb, eg, q⟩ := h
 unfold dNe at eg
 split at eg
 ·rename_i hs
  cases eg
  exact aJF hu pins s σ H _ _ x y Q I rx ry ⟨a, b, by rw [hK]; exact bA.heap sf ra, by rw [hK]; exact bA.heap sf rb, hs.1, hs.2, q _ F H (Ext.refl sf) (.bl _)⟩
 ·cases eg
theorem mJ {K : Frag} {F H : Hp} {v : V} {d : PyData} (h : bA K F H v d) : decide (v = .non) = g4 d := by
 rcases h with h | ⟨p, vs, xs, h1, h2, _⟩
 · cases h <;> rfl
 · subst h1 h2; rfl
theorem aCW : OpR X (compareOp .Is) (r2D (bO c) (bO c) (cW c) dIs) := by
 intro pins s σ H v u x y Q I rx ry h
 obtain ⟨H0, H1, F, a, b, d, sf, ra, rb, eg, q⟩ := h
 unfold dIs at eg
 split at eg
 ·rename_i hs
  cases eg
  have e2 := mJ rb
  rw [hs] at e2
  refine aI5 pins s σ H _ _ x y Q I rx ry ⟨of_decide_eq_true e2, q _ F H (Ext.refl sf) ?_⟩
  rw [mJ ra]; exact .bl _
 ·cases eg
theorem aEJ : OpR X (compareOp .IsNot) (r2D (bO c) (bO c) (cW c) dIsnt) := by
 intro pins s σ H v u x y Q I rx ry h
 obtain ⟨H0, H1, F, a, b, d, sf, ra, rb, eg, q⟩ := h
 unfold dIsnt at eg
 split at eg
 ·rename_i hs
  cases eg
  have e2 := mJ rb
  rw [hs] at e2
  refine aGC pins s σ H _ _ x y Q I rx ry ⟨of_decide_eq_true e2, q _ F H (Ext.refl sf) ?_⟩
  rw [mJ ra]; exact .bl _
 ·cases eg
theorem bC (hK : X.K = c.K) : IxR X (r2D (bO c) (bO c) (cW c) dIx) := by
 intro value slice pins s σ H v u x y Q I rx ry h hs
 obtain ⟨H0, H1, F, a, b, d, sf, ra, rb, eg, q⟩ := h
 unfold dIx at eg
 split at eg
 ·rename_i xs i
  split at eg
  ·rename_i w hw
   cases eg
   obtain ⟨p, vs, rfl, h1, h2⟩ := bA.lst_of sf ra
   obtain rfl := bA.int_of rb
   obtain ⟨z, h3, h4⟩ := w4 h2 hw
   rw [<- hK] at h1
   exact aGM value slice pins s σ H _ _ x y Q I rx ry ⟨p, vs, i, z, rfl, rfl, h1, h3, q _ F H (Ext.refl sf) h4⟩ hs
  ·cases eg
 ·rename_i xs i
  split at eg
  ·rename_i w hw
   cases eg
   obtain ⟨p, vs, rfl, _, h1, h2⟩ := bA.tup_of sf ra
   obtain rfl := bA.int_of rb
   obtain ⟨z, h3, h4⟩ := w4 h2 hw
   rw [<- hK] at h1
   exact aJB value slice pins s σ H _ _ x y Q I rx ry ⟨p, vs, i, z, rfl, rfl, h1, h3, q _ F H (Ext.refl sf) h4⟩ hs
  ·cases eg
 ·rename_i z i
  split at eg
  ·rename_i hz
   split at eg
   ·rename_i w hw
    cases eg
    obtain rfl := bA.str_of ra
    obtain rfl := bA.int_of rb
    exact aJC value slice pins s σ H _ _ x y Q I rx ry ⟨z, i, w, rfl, rfl, hz, hw, q _ F H (Ext.refl sf) (.str _)⟩ hs
   ·cases eg
  ·cases eg
 ·cases eg
def tTf (c : Ct) (E : XK) (f : Sg -> R Bool) : TT := fun σ H Q => ∃ ρ F, Ab c ρ σ F H /\ Rk c E F H (f ρ) fun b => ∀ F' H', Ext F H F' H' -> Q b H'
abbrev PTf (X : Cx) (c : Ct) (E : XK) (e : Expr) (f : Sg -> R Bool) : Prop := PT X e (tTf c E f)
def asB : PyData -> R Bool
 | .bool b => .ok b
 | _ => .bad
theorem uF {f : Sg -> R PyData} {σ : L2.St} {H : Hp} {Q : Bool -> Hp -> Prop} (h : tTf c E (e1 asB f) σ H Q) : tV (cW c) c E f σ H fun x H' => ∃ k, x = .bl k /\ Q k H' := by
 obtain ⟨ρ, F, ab, h⟩ := h
 refine ⟨ρ, F, ab, (Rk.bind h).imp fun d _ q v F' H' s r => ?_⟩
 cases d with
 | bool b => exact ⟨b, DatV.bl_of r, Rk.ok q F' H' s⟩
 | _ => exact False.elim q
theorem cT {op : CmpOp} {g : PyData -> PyData -> R PyData} {fa fb : Sg -> R PyData} (ho : OpR X (compareOp op) (r2D (bO c) (bO c) (cW c) g)) (hp : dO g) (ha : PR X c E a fa) (hb : PR X c E b fb) (hm : behindInMarks op b = false) : PTf X c E (.Compare a [op] [b] pos) (e1 asB (e2 g fa fb)) :=
 PT.imp (j1 ho ha hb hm) fun σ H Q h => tV2 v9 hp (tG c) (lE c) (uF h)
theorem d3 {f : Sg -> R PyData} (h : PD X c E e f) (he : ∀ whole, isTrue e X.env whole = (do let v <- whole; standAt e.pos; holding [v] (truthy v)) := by intro _; rfl) : PTf X c E e (e1 asB f) :=
 PT.imp (L2.d3 h he) fun σ H Q h => uF h
def gG (f g : Sg -> R Bool) : Sg -> R Bool := fun ρ => (f ρ).bind fun b => if b = true then g ρ else .ok false
def bOr (f g : Sg -> R Bool) : Sg -> R Bool := fun ρ => (f ρ).bind fun b => if b = true then .ok true else g ρ
def gR (f : Sg -> R Bool) : Sg -> R Bool := fun ρ => (f ρ).bind fun b => .ok (!b)
abbrev PWf (X : Cx) (c : Ct) (E : XK) (e : Expr) (f : Sg -> R Bool) : Prop := PW X e (tTf c E f)
theorem PW.imp {X : Cx} {e : Expr} {t t' : TT} (h : PW X e t) (i : ∀ σ H Q, t' σ H Q -> t σ H Q) : PW X e t' := fun whole pins s σ H Q I q => h whole pins s σ H Q I (i σ H Q q)
theorem aNJ {f g : Sg -> R Bool} {σ : L2.St} {H : Hp} {Q : Bool -> Hp -> Prop} (h : tTf c E (gG f g) σ H Q) : aIR (tTf c E f) (tTf c E g) σ H Q := by
 obtain ⟨ρ, F, ab, h⟩ := h
 refine ⟨ρ, F, ab, (Rk.bind h).imp fun b _ q F' H' s => ?_⟩
 cases b with
 | true => exact ⟨ρ, F', ab.ext s, (Rk.ext s q).imp fun d _ z F2 H2 s2 => z F2 H2 (s.trans s2)⟩
 | false => exact Rk.ok q F' H' s
theorem tor {f g : Sg -> R Bool} {σ : L2.St} {H : Hp} {Q : Bool -> Hp -> Prop} (h : tTf c E (bOr f g) σ H Q) : tOr (tTf c E f) (tTf c E g) σ H Q := by
 obtain ⟨ρ, F, ab, h⟩ := h
 refine ⟨ρ, F, ab, (Rk.bind h).imp fun b _ q F' H' s => ?_⟩
 cases b with
 | false => exact ⟨ρ, F', ab.ext s, (Rk.ext s q).imp fun d _ z F2 H2 s2 => z F2 H2 (s.trans s2)⟩
 | true => exact Rk.ok q F' H' s
theorem jC {f : Sg -> R Bool} (h : PTf X c E a f) : PWf X c E (.BoolOp .And [a] pos) f := L2.jC h
theorem oV {f : Sg -> R Bool} (h : PTf X c E a f) : PWf X c E (.BoolOp .Or [a] pos) f := L2.oV h
theorem iT {f g : Sg -> R Bool} {rest : List Expr} (h : PTf X c E a f) (h2 : PWf X c E (.BoolOp .And (b :: rest) pos) g) : PWf X c E (.BoolOp .And (a :: b :: rest) pos) (gG f g) := PW.imp (L2.iT h h2) fun _ _ _ q => aNJ q
theorem p7 {f g : Sg -> R Bool} {rest : List Expr} (h : PTf X c E a f) (h2 : PWf X c E (.BoolOp .Or (b :: rest) pos) g) : PWf X c E (.BoolOp .Or (a :: b :: rest) pos) (bOr f g) := PW.imp (L2.p7 h h2) fun _ _ _ q => tor q
theorem iU {f : Sg -> R Bool} (h : PTf X c E a f) : PTf X c E (.UnaryOp .Not a pos) (gR f) := PT.imp (L2.iU h) fun σ H Q ⟨ρ, F, ab, k⟩ => ⟨ρ, F, ab, (Rk.bind k).imp fun b _ q F' H' s => Rk.ok q F' H' s⟩
def aA7 (f g : Sg -> R PyData) : Sg -> R PyData := fun ρ => (f ρ).bind fun x => (asB x).bind fun b => if b = true then g ρ else .ok (.bool false)
def eOr (f g : Sg -> R PyData) : Sg -> R PyData := fun ρ => (f ρ).bind fun x => (asB x).bind fun b => if b = true then .ok (.bool true) else g ρ
def aNK (f : Sg -> R PyData) : Sg -> R PyData := fun ρ => (f ρ).bind fun x => (asB x).bind fun b => .ok (.bool (!b))
def eIf {α : Type} (t : Sg -> R Bool) (f g : Sg -> R α) : Sg -> R α := fun ρ => (t ρ).bind fun b => if b = true then f ρ else g ρ
theorem aJU {op} {f : Sg -> R PyData} (h : PD X c E a f) : PD X c E (.BoolOp op [a] pos) f := aIS h
theorem aJV {f g : Sg -> R PyData} {rest : List Expr} (h : PD X c E a f) (h2 : PD X c E (.BoolOp .And (b :: rest) pos) g) : PD X c E (.BoolOp .And (a :: b :: rest) pos) (aA7 f g) := PE.imp (aIT h h2) fun σ H Q ⟨ρ, F, ab, k⟩ => by
 refine ⟨ρ, F, ab, (Rk.bind k).imp fun d _ q v F' H' s r => ?_⟩
 cases d with
 | bool b =>
  refine ⟨b, DatV.bl_of r, ?_⟩
  cases b with
  | true => exact wJ ⟨ρ, F', ab.ext s, (Rk.ext s q).imp fun d _ z v F2 H2 s2 => z v F2 H2 (s.trans s2)⟩
  | false => exact wI (Rk.ok q (.bl false) F' H' s (.bl false))
 | _ => exact False.elim q
theorem aFY {t : Sg -> R Bool} {f g : Sg -> R PyData} {q : Expr} (hq : PTf X c E q t) (h : PD X c E a f) (h2 : PD X c E b g) : PD X c E (.IfExp q a b pos) (eIf t f g) := PE.imp (aDT hq h h2) fun σ H Q ⟨ρ, F, ab, k⟩ => by
 refine ⟨ρ, F, ab, (Rk.bind k).imp fun b _ q F' H' s => ?_⟩
 cases b with
 | true => exact wJ ⟨ρ, F', ab.ext s, (Rk.ext s q).imp fun d _ z v F2 H2 s2 => z v F2 H2 (s.trans s2)⟩
 | false => exact wI ⟨ρ, F', ab.ext s, (Rk.ext s q).imp fun d _ z v F2 H2 s2 => z v F2 H2 (s.trans s2)⟩
def eCh (g g' : PyData -> PyData -> R PyData) (fa fb fc : Sg -> R PyData) : Sg -> R PyData := fun ρ => (fa ρ).bind fun x => (fb ρ).bind fun y => (g x y).bind fun z => (asB z).bind fun k => if k = true then (fc ρ).bind fun w => g' y w else .ok (.bool false)
end
end Fl
namespace Fl
open PySem L2 PyProof.Rows
def AFs (g : Gb) (K : Frag) (mg : Str -> Option Value) (F : Hp) : List A -> List V -> Prop
 | [], [] => True
 | a :: as, v :: vs => AF g K mg F a v /\ AFs g K mg F as vs
 | _, _ => False
theorem AFs.same {g : Gb} {K : Frag} {mg : Str -> Option Value} {F F' : Hp} (s : aK F F') : ∀ {as : List A} {vs : List V}, AFs g K mg F as vs -> AFs g K mg F' as vs
 | [], [], _ => trivial
 | a :: as, v :: vs, h => ⟨AF.same s h.1, AFs.same s h.2⟩
theorem AFs.len {g : Gb} {K : Frag} {mg : Str -> Option Value} {F : Hp} : ∀ {as : List A} {vs : List V}, AFs g K mg F as vs -> vs.length = as.length
 | [], [], _ => rfl
 | a :: as, v :: vs, h => by rw [List.length_cons, List.length_cons, AFs.len h.2]
theorem PA.imp {X : Cx} {es : List Expr} {t t' : TA} (h : PA X es t) (i : ∀ σ H Q, t' σ H Q -> t σ H Q) : PA X es t' := fun pos pins s σ H Q I q => h pos pins s σ H Q I (i σ H Q q)
def tAd (c : Ct) (E : XK) (f : Sg -> R (List PyData)) : TA := fun σ H Q => ∃ ρ F, Ab c ρ σ F H /\ Rk c E F H (f ρ) fun ds => ∀ vs F' H', Ext F H F' H' -> DatVs c.K F' vs ds -> Q vs H'
def tAv (c : Ct) (E : XK) (f : Sg -> R (List A)) : TA := fun σ H Q => ∃ ρ F, Ab c ρ σ F H /\ Rk c E F H (f ρ) fun ds => ∀ vs F' H', Ext F H F' H' -> AFs c.g c.K c.mg F' ds vs -> Q vs H'
abbrev PAd (X : Cx) (c : Ct) (E : XK) (es : List Expr) (f : Sg -> R (List PyData)) : Prop := PA X es (tAd c E f)
abbrev PAv (X : Cx) (c : Ct) (E : XK) (es : List Expr) (f : Sg -> R (List A)) : Prop := PA X es (tAv c E f)
def aG {α : Type} : Sg -> R (List α) := fun _ => .ok []
def aA {α : Type} (f : Sg -> R α) (g : Sg -> R (List α)) : Sg -> R (List α) := fun ρ => (f ρ).bind fun x => (g ρ).bind fun xs => .ok (x :: xs)
section
variable {X : Cx} {c : Ct} {E : XK} {e a b : Expr} {es : List Expr} {pos : Pos}
theorem bF : PAd X c E [] aG := PA.imp aS fun σ H Q ⟨ρ, F, ab, k⟩ => Rk.ok k [] F H (Ext.refl ab.fh) .nil
theorem bG : PAv X c E [] aG := PA.imp aS fun σ H Q ⟨ρ, F, ab, k⟩ => Rk.ok k [] F H (Ext.refl ab.fh) trivial
theorem aM {f : Sg -> R PyData} {g : Sg -> R (List PyData)} (h : PD X c E e f) (h2 : PAd X c E es g) (hs : starEach (e :: es) X.env = (false, eval e X.env) :: starEach es X.env := by rfl) : PAd X c E (e :: es) (aA f g) := PA.imp (aI h h2 hs) fun σ H Q ⟨ρ, F, ab, k⟩ => by
 refine ⟨ρ, F, ab, (Rk.bind k).imp fun x _ q v F1 H1 s1 r1 => ⟨ρ, F1, ab.ext s1, ((Rk.bind q).ext s1).imp fun xs _ q vs F2 H2 s2 r2 => ?_⟩⟩
 exact Rk.ok q (v :: vs) F2 H2 (s1.trans s2) (.cons (DatV.same s2.ff r1) r2)
theorem aH {f : Sg -> R A} {g : Sg -> R (List A)} (h : PV X c E e f) (h2 : PAv X c E es g) (hs : starEach (e :: es) X.env = (false, eval e X.env) :: starEach es X.env := by rfl) : PAv X c E (e :: es) (aA f g) := PA.imp (aI h h2 hs) fun σ H Q ⟨ρ, F, ab, k⟩ => by
 refine ⟨ρ, F, ab, (Rk.bind k).imp fun x _ q v F1 H1 s1 r1 => ⟨ρ, F1, ab.ext s1, ((Rk.bind q).ext s1).imp fun xs _ q vs F2 H2 s2 r2 => ?_⟩⟩
 exact Rk.ok q (v :: vs) F2 H2 (s1.trans s2) ⟨AF.same s2.ff r1, r2⟩
def cG (f : Sg -> R (List PyData)) : Sg -> R PyData := fun ρ => (f ρ).bind fun xs => if xs.length <= 16777216 then .ok (.tuple xs) else .bad
def cY (f : Sg -> R (List PyData)) : Sg -> R (List PyData) := fun ρ => (f ρ).bind fun xs => if xs.length <= 16777216 then .ok xs else .bad
theorem eB : sizeLine = 16777216 := sizeLine_eq
theorem dP {x1} {f : Sg -> R (List PyData)} (h : PAd X c E es f) : PD X c E (.Tuple es x1 pos) (cG f) := PE.imp (aI7 h) fun σ H Q ⟨ρ, F, ab, k⟩ => by
 refine ⟨ρ, F, ab, (Rk.bind k).imp fun xs _ q vs F1 H1 s1 r1 => ?_⟩
 by_cases hz : xs.length <= 16777216
 ·rw [if_pos hz] at q
  refine ⟨by rw [r1.length, eB]; exact hz, fun p hp => ?_⟩
  exact Rk.ok q (.ref p) _ _ (s1.trans (Ext.new s1.fh hp)) (.tup (SqT.of a7) (r1.same (aK.upd (cB s1.fh hp))))
 ·rw [if_neg hz] at q; exact q.elim
theorem eJ {f : Sg -> R (List PyData)} (h : PAd X c E es f) : PN X c E (.List es pos) (cY f) := PE.imp (aI8 h) fun σ H Q ⟨ρ, F, ab, k⟩ => by
 refine ⟨ρ, F, ab, (Rk.bind k).imp fun xs _ q vs F1 H1 s1 r1 => ?_⟩
 by_cases hz : xs.length <= 16777216
 ·rw [if_pos hz] at q
  refine ⟨by rw [r1.length, eB]; exact hz, fun p hp => ?_⟩
  exact Rk.ok q (.ref p) _ _ (s1.trans (Ext.own s1.fh hp)) ⟨p, vs, rfl, cB s1.hh hp, a7, cB s1.fh hp, r1⟩
 ·rw [if_neg hz] at q; exact q.elim
def dLen : PyData -> R PyData
 | .str z => if z.length <= 16777216 then .ok (.int z.length) else .bad
 | .list xs => .ok (.int xs.length)
 | .tuple xs => .ok (.int xs.length)
 | _ => .bad
theorem aCX : m8 dLen := by intro a e h; unfold dLen at h; split at h <;> (try split at h) <;> cases h
theorem cZ {fa : Sg -> R PyData} (hK : X.K = c.K) (h0 : PE X e (tCB (fun xs H Q => ∃ x n, xs = [x] /\ aI6 X.K x H n /\ Q (.int n) H) (gW (tV (bO c) c E fa) lR))) : PD X c E e (e1 dLen fa) :=
 PE.imp h0 fun σ H Q h => by
  obtain ⟨ρ, F, ab, k⟩ := tV1 (Ra := bO c) wA aCX (lE c) h
  refine ⟨ρ, F, ab, k.imp fun d _ q v F' H' s r => ?_⟩
  obtain ⟨H0, F1, a, d', sf, ra, eg, q⟩ := q v F' H' s r
  unfold dLen at eg
  split at eg
  ·rename_i z
   split at eg
   ·rename_i hz
    cases eg
    obtain rfl := bA.str_of ra
    exact ⟨_, _, rfl, ⟨by rw [eB]; exact hz, rfl⟩, q _ F1 H' (Ext.refl sf) (.int _)⟩
   ·cases eg
  ·cases eg
   obtain ⟨p, vs, rfl, h1, h2⟩ := bA.lst_of sf ra
   rw [<- hK] at h1
   exact ⟨_, vs.length, rfl, .inl ⟨vs, h1, rfl⟩, q _ F1 H' (Ext.refl sf) (by rw [h2.length]; exact .int _)⟩
  ·cases eg
   obtain ⟨p, vs, rfl, _, h1, h2⟩ := bA.tup_of sf ra
   rw [<- hK] at h1
   exact ⟨_, vs.length, rfl, .inr ⟨vs, h1, rfl⟩, q _ F1 H' (Ext.refl sf) (by rw [h2.length]; exact .int _)⟩
  ·cases eg
def dTup : PyData -> R PyData
 | .list xs => .ok (.tuple xs)
 | .tuple xs => .ok (.tuple xs)
 | _ => .bad
theorem aCY : m8 dTup := by intro a e h; unfold dTup at h; split at h <;> cases h
theorem eF {fa : Sg -> R PyData} (hK : X.K = c.K) (h0 : PE X e (tCB (fun xs H Q => ∃ p ys, xs = [.ref p] /\ ((SqL X.K H p ys /\ ∀ l, H l = none -> Q (.ref l) (upd H l (.tup ys))) \/ (SqT X.K H p ys /\ Q (.ref p) H))) (gW (tV (bO c) c E fa) lR))) : PD X c E e (e1 dTup fa) :=
 PE.imp h0 fun σ H Q h => by
  obtain ⟨ρ, F, ab, k⟩ := tV1 (Ra := bO c) wA aCY (lE c) h
  refine ⟨ρ, F, ab, k.imp fun d _ q v F' H' s r => ?_⟩
  obtain ⟨H0, F1, a, d', sf, ra, eg, q⟩ := q v F' H' s r
  unfold dTup at eg
  split at eg
  ·cases eg
   obtain ⟨p, vs, rfl, h1, h2⟩ := bA.lst_of sf ra
   rw [<- hK] at h1
   exact ⟨p, vs, rfl, .inl ⟨h1, fun l hl => q _ _ _ (Ext.new sf hl) (.tup (SqT.of a7) (h2.same (aK.upd (cB sf hl))))⟩⟩
  ·cases eg
   obtain ⟨p, vs, rfl, f1, h1, h2⟩ := bA.tup_of sf ra
   rw [<- hK] at h1
   exact ⟨p, vs, rfl, .inr ⟨h1, q _ F1 H' (Ext.refl sf) (.tup f1 h2)⟩⟩
  ·cases eg
def aJW : PyData -> R (List PyData)
 | .list xs => .ok xs
 | .tuple xs => .ok xs
 | _ => .bad
def dInt : PyData -> R PyData
 | .int i => .ok (.int i)
 | .bool b => .ok (.int (if b = true then 1 else 0))
 | _ => .bad
theorem aCZ : m8 dInt := by intro a e h; unfold dInt at h; split at h <;> cases h
theorem uG {fa : Sg -> R PyData} (h0 : PE X e (tCB (fun xs H Q => (∃ i, xs = [.int i] /\ Q (.int i) H) \/ ∃ k, xs = [.bl k] /\ Q (.int (if k then 1 else 0)) H) (gW (tV (bO c) c E fa) lR))) : PD X c E e (e1 dInt fa) :=
 PE.imp h0 fun σ H Q h => by
  obtain ⟨ρ, F, ab, k⟩ := tV1 (Ra := bO c) wA aCZ (lE c) h
  refine ⟨ρ, F, ab, k.imp fun d _ q v F' H' s r => ?_⟩
  obtain ⟨H0, F1, a, d', sf, ra, eg, q⟩ := q v F' H' s r
  unfold dInt at eg
  split at eg
  ·cases eg
   obtain rfl := bA.int_of ra
   exact .inl ⟨_, rfl, q _ F1 H' (Ext.refl sf) (.int _)⟩
  ·rename_i b
   cases eg
   obtain rfl := bA.bl_of ra
   exact .inr ⟨b, rfl, q _ F1 H' (Ext.refl sf) (by cases b <;> exact .int _)⟩
  ·cases eg
def aL6 : List PyData -> Option (List Bool)
 | [] => some []
 | .bool b :: t => (aL6 t).map (b :: ·)
 | _ => none
end
end Fl
namespace Fl
open PySem L2 PyProof.Rows
inductive Fw where
 | nx (ρ : Sg) | bk (ρ : Sg) | ct (ρ : Sg) | rt (a : A)
def i6 (c : Ct) (F : Hp) (D : iQ) : Fw -> Prop
 | .nx ρ => ∀ σ' F' H', aK F F' -> Ab c ρ σ' F' H' -> D.nx σ' H'
 | .bk ρ => ∀ σ' F' H', aK F F' -> Ab c ρ σ' F' H' -> D.bk σ' H'
 | .ct ρ => ∀ σ' F' H', aK F F' -> Ab c ρ σ' F' H' -> D.ct σ' H'
 | .rt a => ∀ v F' H', Ext c.F0 c.H0 F' H' -> AF c.g c.K c.mg F' a v -> D.rt v H'
theorem i6.same {c : Ct} {F F1 : Hp} {D : iQ} (s : aK F F1) : ∀ {w : Fw}, i6 c F D w -> i6 c F1 D w
 | .nx ρ, h => fun σ' F' H' s' ab => h σ' F' H' (fun a o z => s' a o (s a o z)) ab
 | .bk ρ, h => fun σ' F' H' s' ab => h σ' F' H' (fun a o z => s' a o (s a o z)) ab
 | .ct ρ, h => fun σ' F' H' s' ab => h σ' F' H' (fun a o z => s' a o (s a o z)) ab
 | .rt a, h => h
def tSf (c : Ct) (E : XK) (f : Sg -> R Fw) : TS := fun D σ H => ∃ ρ F, Ab c ρ σ F H /\ Rk c E F H (f ρ) (i6 c F D)
abbrev PSf (X : Cx) (c : Ct) (E : XK) (st : Stmt) (f : Sg -> R Fw) : Prop := PS X st (tSf c E f)
abbrev kW (X : Cx) (c : Ct) (E : XK) (st : List Stmt) (f : Sg -> R Fw) : Prop := PSs X st (tSf c E f)
theorem get_set {α : Type} {l : List α} {i j : Nat} {x y : α} (h : (l.set i x)[j]? = some y) : (i = j /\ y = x /\ i < l.length) \/ (i ≠ j /\ l[j]? = some y) := by
 by_cases e : i = j
 ·subst e
  by_cases hl : i < l.length
  · rw [List.getElem?_set_self hl] at h; exact .inl ⟨rfl, (Option.some.inj h).symm, hl⟩
  · rw [List.getElem?_eq_none_iff.mpr (by rw [List.length_set]; omega)] at h; cases h
 ·rw [List.getElem?_set_ne e] at h; exact .inr ⟨e, h⟩
theorem Ab.setF {c : Ct} {ρ : Sg} {σ : L2.St} {F H : Hp} {i : Nat} {a : A} {v : V} (b : Ab c ρ σ F H) (ha : AO c F H a v) (hn : a.own = true -> ∀ (j : Nat) (a' : A), j ≠ i -> ρ[j]? = some (some a') -> a'.own = true -> σ[j]? ≠ some (some v)) : Ab c (ρ.set i (some a)) (σ.set i (some v)) F H where
 len := by rw [List.length_set, List.length_set]; exact b.len
 fh := b.fh
 slot := fun j a' h => by
  rcases get_set h with ⟨e, q, hl⟩ | ⟨ne, q⟩
  ·subst e
   cases q
   exact ⟨v, List.getElem?_set_self (by rw [<- b.len]; exact hl), ha⟩
  ·rw [List.getElem?_set_ne ne]; exact b.slot j a' q
 apart := fun j k a' b' hjk h1 h2 o1 o2 => by
  rcases get_set h1 with ⟨e, q, hl⟩ | ⟨ne, q⟩
  ·subst e
   cases q
   rcases get_set h2 with ⟨e', q', hl'⟩ | ⟨ne', q'⟩
   ·exact absurd e' hjk
   ·rw [List.getElem?_set_self (by rw [<- b.len]; exact hl), List.getElem?_set_ne ne']
    exact (hn o1 k b' (Ne.symm hjk) q' o2).symm
  ·rcases get_set h2 with ⟨e', q', hl'⟩ | ⟨ne', q'⟩
   ·subst e'
    cases q'
    rw [List.getElem?_set_self (by rw [<- b.len]; exact hl'), List.getElem?_set_ne ne]
    exact hn o2 j a' hjk q o1
   ·rw [List.getElem?_set_ne ne, List.getElem?_set_ne ne']
    exact b.apart j k a' b' hjk q q' o1 o2
 f0 := b.f0
 h0 := b.h0
 n0 := b.n0
 t0 := b.t0
theorem AO.of {c : Ct} {F H : Hp} : ∀ {a : A} {v : V}, AF c.g c.K c.mg F a v -> AO c F H a v
 | .d x, v, h => h
 | .x e, v, h => h
 | .g k n G, v, h => h
 | .f kvs, v, h => h
theorem AF.notOwn {g : Gb} {K : Frag} {mg : Str -> Option Value} {F : Hp} : ∀ {a : A} {v : V}, AF g K mg F a v -> a.own = false
 | .d x, v, h => rfl
 | .x e, v, h => rfl
 | .g k n G, v, h => rfl
 | .f kvs, v, h => rfl
theorem Ab.setA {c : Ct} {ρ : Sg} {σ : L2.St} {F H : Hp} {i : Nat} {a : A} {v : V} (b : Ab c ρ σ F H) (ha : AF c.g c.K c.mg F a v) : Ab c (ρ.set i (some a)) (σ.set i (some v)) F H :=
 b.setF (AO.of ha) fun z => by rw [AF.notOwn ha] at z; cases z
theorem Ab.setN {c : Ct} {ρ : Sg} {σ : L2.St} {F H F' H' : Hp} {i : Nat} {xs : List PyData} {v : V} (b : Ab c ρ σ F H) (e : Ext F H F' H') (h : aA4 c xs v H F' H') : Ab c (ρ.set i (some (.l xs))) (σ.set i (some v)) F' H' := by
 obtain ⟨p, vs, rfl, h1, h2, h3, h4⟩ := h
 refine (b.ext e).setF ⟨p, vs, rfl, h2, h3, cB b.h0 h1, h4⟩ fun _ j a' _ ha' ho => ?_
 obtain ⟨w, hw, q⟩ := b.slot j a' ha'
 rw [hw]
 intro z
 cases z
 obtain ⟨p', o', e', q1, _⟩ := q.at ho
 cases e'
 rw [h1] at q1
 cases q1
theorem Ab.putO {c : Ct} {ρ : Sg} {σ : L2.St} {F H : Hp} {i : Nat} {a a' : A} {p : Addr} {o : HO} (b : Ab c ρ σ F H) (hi : ρ[i]? = some (some a)) (ho : a.own = true) (hp : σ[i]? = some (some (.ref p))) (ho' : a'.own = true) (hy : AO c F (upd H p o) a' (.ref p)) :
  Ab c (ρ.set i (some a')) σ F (upd H p o) := by
 obtain ⟨v, h1, q⟩ := b.slot i _ hi
 rw [hp] at h1
 cases h1
 obtain ⟨p', o', e', h2, h3, h4⟩ := q.at ho
 cases e'
 have other : ∀ (j : Nat) (a : A) (w : V), j ≠ i -> ρ[j]? = some (some a) -> σ[j]? = some (some w) -> AO c F H a w -> AO c F (upd H p o) a w := by
  intro j a2 w hj ha hw q2
  by_cases own : a2.own = true
  ·refine q2.off fun z => ?_
   subst z
   exact b.apart j i _ _ hj ha hi own ho (by rw [hw, hp])
  ·cases a2 with
   | l zs => exact absurd rfl own
   | m zs => exact absurd rfl own
   | d x => exact q2
   | x e => exact q2
   | g k n f => exact q2
   | k S => exact q2
   | f S => exact q2
 exact {
  len := by rw [List.length_set]; exact b.len
  fh := fun a o z => by rw [aQ (fun w => by subst w; rw [h3] at z; cases z)]; exact b.fh a o z
  slot := fun j a h => by
   rcases get_set h with ⟨e, q, hl⟩ | ⟨ne, q⟩
   ·subst e
    cases q
    exact ⟨_, hp, hy⟩
   ·obtain ⟨w, hw, q2⟩ := b.slot j a q
    exact ⟨w, hw, other j a w (Ne.symm ne) q hw q2⟩
  apart := fun j k a' b' hjk h1 h2 o1 o2 => by
   rcases get_set h1 with ⟨e, q, hl⟩ | ⟨ne, q⟩
   ·subst e
    cases q
    rcases get_set h2 with ⟨e', q', hl'⟩ | ⟨ne', q'⟩
    ·exact absurd e' hjk
    ·exact b.apart _ k _ b' hjk hi q' ho o2
   ·rcases get_set h2 with ⟨e', q', hl'⟩ | ⟨ne', q'⟩
    ·subst e'
     exact b.apart j _ a' _ hjk q hi o1 ho
    ·exact b.apart j k a' b' hjk q q' o1 o2
  f0 := b.f0
  h0 := fun a o z => by rw [aQ (fun w => by subst w; rw [h4] at z; cases z)]; exact b.h0 a o z
  n0 := b.n0
  t0 := b.t0 }
theorem Ab.putL {c : Ct} {ρ : Sg} {σ : L2.St} {F H : Hp} {i : Nat} {xs ys : List PyData} {p : Addr} {vs : List V} (b : Ab c ρ σ F H) (hi : ρ[i]? = some (some (.l xs))) (hp : σ[i]? = some (some (.ref p))) (hy : DatVs c.K F vs ys) :
  Ab c (ρ.set i (some (.l ys))) σ F (upd H p (.lst vs)) := by
 obtain ⟨v, h1, p', us, rfl, h2, h3, h4, h5⟩ := b.slot i _ hi
 rw [hp] at h1
 cases h1
 exact b.putO hi rfl hp rfl ⟨p, vs, rfl, a7, h3, h4, hy⟩
theorem Ab.putM {c : Ct} {ρ : Sg} {σ : L2.St} {F H : Hp} {i : Nat} {kvs kvs' : List (PyData × PyData)} {p : Addr} {es : List Ent} (b : Ab c ρ σ F H) (hi : ρ[i]? = some (some (.m kvs))) (hp : σ[i]? = some (some (.ref p))) (hy : MapRel c.K F es kvs') :
  Ab c (ρ.set i (some (.m kvs'))) σ F (upd H p (d7 c.w p es)) := by
 obtain ⟨v, h1, p', us, rfl, h2, h3, h4, h5⟩ := b.slot i _ hi
 rw [hp] at h1
 cases h1
 exact b.putO hi rfl hp rfl ⟨p, es, rfl, a7, h3, h4, hy⟩
theorem Ab.setM {c : Ct} {ρ : Sg} {σ : L2.St} {F H F' H' : Hp} {i : Nat} {kvs : List (PyData × PyData)} {p : Addr} {es : List Ent} (b : Ab c ρ σ F H) (e : Ext F H F' H') (h1 : H p = none) (h2 : H' p = some (d7 c.w p es)) (h3 : F' p = none) (h4 : MapRel c.K F' es kvs) : Ab c (ρ.set i (some (.m kvs))) (σ.set i (some (.ref p))) F' H' := by
 refine (b.ext e).setF ⟨p, es, rfl, h2, h3, cB b.h0 h1, h4⟩ fun _ j a' _ ha' ho => ?_
 obtain ⟨w, hw, q⟩ := b.slot j a' ha'
 rw [hw]
 intro z
 cases z
 obtain ⟨p', o', e', q1, _⟩ := q.at ho
 cases e'
 rw [h1] at q1
 cases q1
def fz (i : Nat) (ρ : Sg) : Sg := match ρ[i]? with
 | some (some (.l xs)) => ρ.set i (some (.d (.list xs)))
 | _ => ρ
theorem Ab.publ {c : Ct} {ρ : Sg} {σ : L2.St} {F H : Hp} {i : Nat} {a0 a1 : A} {p : Addr} {o : HO} (b : Ab c ρ σ F H) (hi : ρ[i]? = some (some a0)) (hp : σ[i]? = some (some (.ref p))) (ow : a0.own = true) (h2 : H p = some o) (h3 : F p = none) (h4 : c.H0 p = none) (no : a1.own = false) (hr : AO c (upd F p o) H a1 (.ref p)) : Ab c (ρ.set i (some a1)) σ (upd F p o) H := by
 have sf : aK F (upd F p o) := aK.upd h3
 exact {
  len := by rw [List.length_set]; exact b.len
  fh := fun a o' z => by
   by_cases w : a = p
   ·subst w; rw [a7] at z; rw [h2]; exact z
   ·rw [aQ w] at z; exact b.fh a o' z
  slot := fun j a h => by
   rcases get_set h with ⟨e, q, hl⟩ | ⟨ne, q⟩
   ·subst e
    cases q
    exact ⟨_, hp, hr⟩
   ·obtain ⟨w, hw, q2⟩ := b.slot j a q
    refine ⟨w, hw, ?_⟩
    have off : ∀ r, a.own = true -> w = .ref r -> F r = none -> upd F p o r = none := fun r oa e f => by
     rw [aQ]
     ·exact f
     ·intro z
      subst z
      exact b.apart j i _ _ (Ne.symm ne) q hi oa ow (by rw [hw, hp, e])
    cases a with
    | l zs => obtain ⟨r, ws, e, q1, q2, q3, q4⟩ := q2; exact ⟨r, ws, e, q1, off r rfl e q2, q3, q4.same sf⟩
    | m kvs => obtain ⟨r, ws, e, q1, q2, q3, q4⟩ := q2; exact ⟨r, ws, e, q1, off r rfl e q2, q3, q4.same sf⟩
    | d x => exact DatV.same sf q2
    | x e => exact AF.same (g := c.g) (K := c.K) (mg := c.mg) (a := .x e) sf q2
    | g k n f => exact AF.same (g := c.g) (K := c.K) (mg := c.mg) (a := .g k n f) sf q2
    | k S => obtain ⟨S, f, cl, doc, pm, cc, ct, h0, h1, h2, h3, h4⟩ := q2; exact ⟨S, f, cl, doc, pm, cc, ct, h0, h1, sf _ _ h2, sf _ _ h3, h4⟩
    | f kvs => exact AF.same (g := c.g) (K := c.K) (mg := c.mg) (a := .f kvs) sf q2
  apart := fun j k a' b' hjk h1 h2 o1 o2 => by
   rcases get_set h1 with ⟨e, q, hl⟩ | ⟨ne, q⟩
   ·cases q; rw [no] at o1; cases o1
   ·rcases get_set h2 with ⟨e', q', hl'⟩ | ⟨ne', q'⟩
    ·cases q'; rw [no] at o2; cases o2
    ·exact b.apart j k a' b' hjk q q' o1 o2
  f0 := fun a o z => sf a o (b.f0 a o z)
  h0 := b.h0
  n0 := fun a z n => by
   by_cases w : a = p
   ·subst w; exact .inl h4
   ·rw [aQ w] at n; exact b.n0 a z n
  t0 := b.t0 }
theorem Ab.frz {c : Ct} {ρ : Sg} {σ : L2.St} {F H : Hp} (b : Ab c ρ σ F H) (i : Nat) : ∃ F', aK F F' /\ Ab c (fz i ρ) σ F' H := by
 unfold fz
 split
 ·rename_i xs hi
  obtain ⟨v, hp, p, vs, rfl, h2, h3, h4, h5⟩ := b.slot i _ hi
  exact ⟨_, aK.upd h3, b.publ hi hp rfl h2 h3 h4 rfl (.lst (SqL.of a7) (h5.same (aK.upd h3)))⟩
 ·exact ⟨F, bY F, b⟩
def aL7 : PyData -> PyData -> R PyData
 | .int i, .int j => .ok (.int (i + j))
 | _, _ => .bad
section
variable {X : Cx} {c : Ct} {E : XK} {e a b : Expr} {st : Stmt} {rest : List Stmt} {pos : Pos}
def sFz (i : Nat) (f : Sg -> R Fw) : Sg -> R Fw := fun ρ => f (fz i ρ)
theorem qH (i : Nat) {f : Sg -> R Fw} (h : PSf X c E st f) : PSf X c E st (sFz i f) := PS.imp h fun D σ H ⟨ρ, F, ab, k⟩ => by
 obtain ⟨F', s, ab'⟩ := ab.frz i
 refine ⟨fz i ρ, F', ab', ?_⟩
 have k' : Rk c E F H (f (fz i ρ)) (i6 c F D) := k
 cases q : f (fz i ρ) with
 | bad => rw [q] at k'; exact k'
 | ok w => rw [q] at k'; exact i6.same s k'
 | ex e => rw [q] at k'; exact k'
def sNx : Sg -> R Fw := fun ρ => .ok (.nx ρ)
def aD (f g : Sg -> R Fw) : Sg -> R Fw := fun ρ => (f ρ).bind fun w => match w with
 | .nx ρ' => g ρ'
 | w => .ok w
theorem cD : kW X c E [] sNx := PSs.imp L2.cD fun D σ H ⟨ρ, F, ab, k⟩ => Rk.ok k σ F H (bY F) ab
theorem aN {f : Sg -> R Fw} (h : PSf X c E st f) : kW X c E [st] f := L2.aN h
theorem aE {f g : Sg -> R Fw} (h : PSf X c E st f) (h2 : kW X c E rest g) : kW X c E (st :: rest) (aD f g) := PSs.imp (L2.aE h h2) fun D σ H ⟨ρ, F, ab, k⟩ => by
 refine ⟨ρ, F, ab, (Rk.bind k).imp fun w _ q => ?_⟩
 cases w with
 | nx ρ' =>
  intro σ' F' H' s ab'
  refine ⟨ρ', F', ab', ?_⟩
  have q' : Rk c E F H (g ρ') (i6 c F D) := q
  cases eg : g ρ' with
  | bad => rw [eg] at q'; exact q'
  | ok w => rw [eg] at q'; exact i6.same s q'
  | ex e => rw [eg] at q'; exact q'
 | bk ρ' => exact q
 | ct ρ' => exact q
 | rt a => exact q
def aY (f : Sg -> R A) : Sg -> R Fw := fun ρ => (f ρ).bind fun a => .ok (.rt a)
theorem bJ {f : Sg -> R A} (h : PV X c E e f) : PSf X c E (.Return (some e) pos) (aY f) := PS.imp (L2.bJ h) fun D σ H ⟨ρ, F, ab, k⟩ =>
 ⟨ρ, F, ab, (Rk.bind k).imp fun a _ q v F' H' s r => Rk.ok q v F' H' (ab.all.trans s) r⟩
def aL8 : Sg -> R Fw := fun _ => .ok (.rt (.d .none))
def sIf (t : Sg -> R Bool) (f g : Sg -> R Fw) : Sg -> R Fw := fun ρ => (t ρ).bind fun b => if b = true then f ρ else g ρ
theorem Rk.fw {F F1 H H1 : Hp} {D : iQ} {r : R Fw} (s : aK F F1) (k : Rk c E F H r (i6 c F D)) : Rk c E F1 H1 r (i6 c F1 D) := by
 cases r with
 | bad => exact k
 | ok w => exact i6.same s k
 | ex e => exact k
theorem dA {q : Expr} {sa sb : List Stmt} {t : Sg -> R Bool} {f g : Sg -> R Fw} (hq : PTf X c E q t) (ha : kW X c E sa f) (hb : kW X c E sb g) : PSf X c E (.If q sa sb pos) (sIf t f g) := PS.imp (L2.dA hq ha hb) fun D σ H ⟨ρ, F, ab, k⟩ => by
 refine ⟨ρ, F, ab, (Rk.bind k).imp fun b _ q F' H' s => ?_⟩
 cases b with
 | true => exact wJ ⟨ρ, F', ab.ext s, Rk.fw s.ff q⟩
 | false => exact wI ⟨ρ, F', ab.ext s, Rk.fw s.ff q⟩
def bN (i : Nat) (f : Sg -> R A) : Sg -> R Fw := fun ρ => (f ρ).bind fun a => .ok (.nx (ρ.set i (some a)))
theorem aJ {i : Nat} {f : Sg -> R A} (h : PS X st (kU (tV (aEF c) c E f) (jO i))) : PSf X c E st (bN i f) := PS.imp h fun D σ H ⟨ρ, F, ab, k⟩ =>
 ⟨ρ, F, ab, (Rk.bind k).imp fun a _ q v F' H' s r => Rk.ok q _ F' H' s.ff ((ab.ext s).setA r)⟩
def cR (i : Nat) (f : Sg -> R (List PyData)) : Sg -> R Fw := fun ρ => (f ρ).bind fun xs => .ok (.nx (ρ.set i (some (.l xs))))
theorem eQ {i : Nat} {f : Sg -> R (List PyData)} (h : PS X st (kU (tV (aA4 c) c E f) (jO i))) : PSf X c E st (cR i f) := PS.imp h fun D σ H ⟨ρ, F, ab, k⟩ =>
 ⟨ρ, F, ab, (Rk.bind k).imp fun a _ q v F' H' s r => Rk.ok q _ F' H' s.ff (ab.setN s r)⟩
def aFZ (f : Sg -> R A) : Sg -> R Fw := fun ρ => (f ρ).bind fun _ => .ok (.nx ρ)
theorem fD {f : Sg -> R A} (h : PS X st (aAL (tV (aEF c) c E f))) : PSf X c E st (aFZ f) := PS.imp h fun D σ H ⟨ρ, F, ab, k⟩ =>
 ⟨ρ, F, ab, (Rk.bind k).imp fun a _ q v F' H' s r => Rk.ok q _ F' H' s.ff (ab.ext s)⟩
def dB (i : Nat) (f : Sg -> R PyData) : Sg -> R Fw := fun ρ => match ρ[i]? with
 | some (some (.l xs)) => (f ρ).bind fun x => if xs.length < 16777216 then .ok (.nx (ρ.set i (some (.l (xs ++ [x]))))) else .bad
 | _ => .bad
theorem hR {i : Nat} {f : Sg -> R PyData} (hK : X.K = c.K) (h : PS X st (aAL (tBM X.K "list" y7 (jN i) (gW (tV (cW c) c E f) lR)))) : PSf X c E st (dB i f) := PS.imp h fun D σ H ⟨ρ, F, ab, k⟩ => by
 unfold dB at k
 split at k
 ·rename_i xs hi
  obtain ⟨v, hp, p, vs, rfl, h2, h3, h4, h5⟩ := ab.slot i _ hi
  refine ⟨_, hp, .inl ⟨rfl, vs, SqL.of h2⟩, ρ, F, ab, (Rk.bind k).imp fun x _ q u F1 H1 s1 r1 => ?_⟩
  by_cases hz : xs.length < 16777216
  ·rw [if_pos hz] at q
   refine ⟨p, vs, u, rfl, rfl, s1.hh _ _ h2, by rw [h5.length, eB]; exact hz, ?_⟩
   exact Rk.ok q σ F1 _ s1.ff ((ab.ext s1).putL hi hp ((h5.same s1.ff).append (.cons r1 .nil)))
  ·rw [if_neg hz] at q; exact q.elim
 ·exact k.elim
def aNL (i : Nat) (g : PyData -> PyData -> R PyData) (f : Sg -> R PyData) : Sg -> R Fw := fun ρ => (eV i ρ).bind fun x => (f ρ).bind fun y => (g x y).bind fun z => .ok (.nx (ρ.set i (some (.d z))))
end
end Fl
namespace Fl
open PySem L2 PyProof.Rows
def Tg (c : Ct) (g : TG) (fs : PyData -> Sg -> Option Sg) (is : List Nat) : Prop := ∀ (v : V) (x : PyData) (ρ ρ' : Sg) (σ : L2.St) (F H : Hp) (Q : L2.St -> Hp -> Prop), Ab c ρ σ F H -> DatV c.K F v x -> fs x ρ = some ρ' ->
 (∀ σ' : L2.St, σ'.length = σ.length -> (∀ j : Nat, j ∉ is -> σ'[j]? = σ[j]?) -> Ab c ρ' σ' F H -> Q σ' H) -> g v σ H Q
def stN (i : Nat) : PyData -> Sg -> Option Sg := fun x ρ => some (ρ.set i (some (.d x)))
theorem bR {c : Ct} (i : Nat) : Tg c (jO i) (stN i) [i] := fun v x ρ ρ' σ F H Q ab r e q => by
 cases e
 exact q _ List.length_set (fun j hj => List.getElem?_set_ne (by intro z; subst z; exact hj (by simp))) (ab.setA (a := .d x) r)
def stL : List (PyData -> Sg -> Option Sg) -> List PyData -> Sg -> Option Sg
 | [], [], ρ => some ρ
 | f :: fs, x :: xs, ρ => (f x ρ).bind (stL fs xs)
 | _, _, _ => none
def Tgs (c : Ct) (g : TGs) (fs : List (PyData -> Sg -> Option Sg)) (is : List Nat) : Prop := ∀ (vs : List V) (xs : List PyData) (ρ ρ' : Sg) (σ : L2.St) (F H : Hp) (Q : L2.St -> Hp -> Prop), Ab c ρ σ F H -> DatVs c.K F vs xs -> stL fs xs ρ = some ρ' ->
 (∀ σ' : L2.St, σ'.length = σ.length -> (∀ j : Nat, j ∉ is -> σ'[j]? = σ[j]?) -> Ab c ρ' σ' F H -> Q σ' H) -> g vs σ H Q
theorem nB {c : Ct} : Tgs c aIV [] [] := fun vs xs ρ ρ' σ F H Q ab r e q => by
 cases xs with
 | nil => cases e; exact ⟨by cases r; rfl, q σ rfl (fun _ _ => rfl) ab⟩
 | cons x t => cases e
theorem eZ {c : Ct} {g : TG} {gs : TGs} {f : PyData -> Sg -> Option Sg} {fs : List (PyData -> Sg -> Option Sg)} {is js : List Nat} (h : Tg c g f is) (h2 : Tgs c gs fs js) : Tgs c (aFM g gs) (f :: fs) (is ++ js) := fun vs xs ρ ρ' σ F H Q ab r e q => by
 cases r with
 | nil => cases e
 | cons r1 r2 =>
  rename_i x d vs ds
  have e' : (f d ρ).bind (stL fs ds) = some ρ' := e
  cases e1 : f d ρ with
  | none => rw [e1] at e'; cases e'
  | some ρ1 =>
   rw [e1] at e'
   refine ⟨_, _, rfl, h _ _ ρ ρ1 σ F H _ ab r1 e1 fun σ1 l1 k1 ab1 => h2 _ _ ρ1 ρ' σ1 F H _ ab1 r2 e' fun σ2 l2 k2 ab2 => q σ2 (l2.trans l1) (fun j hj => ?_) ab2⟩
   rw [List.mem_append, not_or] at hj
   exact (k2 j hj.2).trans (k1 j hj.1)
def stT (fs : List (PyData -> Sg -> Option Sg)) : PyData -> Sg -> Option Sg := fun x ρ => match x with
 | .tuple xs => stL fs xs ρ
 | _ => none
theorem zG : ∀ {fs : List (PyData -> Sg -> Option Sg)} {xs : List PyData} {ρ ρ' : Sg}, stL fs xs ρ = some ρ' -> xs.length = fs.length
 | [], [], _, _, _ => rfl
 | [], _ :: _, _, _, h => by cases h
 | _ :: _, [], _, _, h => by cases h
 | f :: fs, x :: xs, ρ, ρ', h => by
  have h' : (f x ρ).bind (stL fs xs) = some ρ' := h
  cases e : f x ρ with
  | none => rw [e] at h'; cases h'
  | some ρ1 =>
   rw [e] at h'
   have := zG (fs := fs) (xs := xs) h'
   simp [this]
theorem pD {c : Ct} {gs : TGs} {fs : List (PyData -> Sg -> Option Sg)} {is : List Nat} {n : Nat} {K : Frag} (hK : K = c.K) (h : Tgs c gs fs is) (hn : fs.length = n) : Tg c (aIW K n gs) (stT fs) is := fun v x ρ ρ' σ F H Q ab r e q => by
 cases x with
 | tuple xs =>
  obtain ⟨a, vs, rfl, h1, h2⟩ := r.tup_of
  subst hK
  exact ⟨a, vs, rfl, h1.same ab.fh, by rw [h2.length, zG e, hn], h vs xs ρ ρ' σ F H Q ab h2 e q⟩
 | _ => cases e
structure Yld (K : Frag) (J : It) (F B : Hp) (xs : List PyData) : Prop where
 len : xs.length <= sizeLine
 go : ∀ (i : Nat) F1 H1, aK F F1 -> aK F1 H1 -> aK B H1 -> i < xs.length -> J.go i H1
 yld : ∀ (i : Nat) F1 H1 v H2 x, aK F F1 -> aK F1 H1 -> aK B H1 -> J.yld i H1 v H2 -> xs[i]? = some x -> ∃ F2, Ext F1 H1 F2 H2 /\ DatV K F2 v x
 stop : ∀ F1 H1, aK F F1 -> aK F1 H1 -> aK B H1 -> J.stop xs.length H1
def tI (c : Ct) (E : XK) (f : Sg -> R (List PyData)) : TI := fun σ H Rr => ∃ ρ F, Ab c ρ σ F H /\ Rk c E F H (f ρ) fun xs => ∀ J B F' H', Ext F H F' H' -> aK B H' -> Yld c.K J F' B xs -> Rr J H'
def tI0 (c : Ct) (E : XK) (f : Sg -> R (List PyData)) : TI := fun σ H Rr => ∃ ρ F, Ab c ρ σ F H /\ Rk c E F H (f ρ) fun xs => ∀ J F' H', Ext F H F' H' -> Yld c.K J F' (fun _ => none) xs -> Rr J H'
theorem PI.imp {X : Cx} {tg e : Expr} {t t' : TI} (h : PI X tg e t) (i : ∀ σ H Q, t' σ H Q -> t σ H Q) : PI X tg e t' := fun pins s σ H Q I q => h pins s σ H Q I (i σ H Q q)
abbrev PIf (X : Cx) (c : Ct) (E : XK) (tg e : Expr) (f : Sg -> R (List PyData)) : Prop := PI X tg e (tI c E f)
abbrev PI0 (X : Cx) (c : Ct) (E : XK) (tg e : Expr) (f : Sg -> R (List PyData)) : Prop := PI X tg e (tI0 c E f)
theorem aA8 {X : Cx} {c : Ct} {E : XK} {tg e : Expr} {f : Sg -> R (List PyData)} (h : PI0 X c E tg e f) : PIf X c E tg e f := PI.imp h fun σ H Q ⟨ρ, F, ab, k⟩ =>
 ⟨ρ, F, ab, k.imp fun xs _ q J F' H' s y => q J (fun _ => none) F' H' s (fun _ _ z => nomatch z) y⟩
def pE {H : Hp} : aK (fun _ => none) H := fun _ _ z => nomatch z
def bT : PyData -> R (List PyData)
 | .list xs => if xs.length <= 16777216 then .ok xs else .bad
 | .tuple xs => if xs.length <= 16777216 then .ok xs else .bad
 | .str z => if z.cps.toList.length <= 16777216 then .ok (z.cps.toList.map fun u => .str ⟨#[u]⟩) else .bad
 | _ => .bad
theorem w9 {K : Frag} {F B H : Hp} {a : Addr} {vs : List V} {xs : List PyData} (hz : xs.length <= 16777216) (hs : ∀ H1, aK F H1 -> aK B H1 -> SqL K H1 a vs) (hd : DatVs K F vs xs) : Yld K (Itl K a) F B xs where
 len := by rw [eB]; exact hz
 go := fun i F1 H1 h1 h2 h3 hi => by
  have q := hs H1 (fun x o z => h2 x o (h1 x o z)) h3
  exact ⟨vs, vs[i]'(by rw [hd.length]; exact hi), q, by simp⟩
 yld := fun i F1 H1 v H2 x h1 h2 h3 y e => by
  obtain ⟨rfl, y⟩ := y
  have q := y vs (hs _ (fun x o z => h2 x o (h1 x o z)) h3)
  obtain ⟨d, e2, r⟩ := hd.get q
  rw [e] at e2
  cases e2
  exact ⟨F1, Ext.refl h2, r.same h1⟩
 stop := fun F1 H1 h1 h2 h3 => ⟨vs, hs H1 (fun x o z => h2 x o (h1 x o z)) h3, by rw [hd.length]; exact Nat.le_refl _⟩
theorem zH {K : Frag} {F B : Hp} {a : Addr} {vs : List V} {xs : List PyData} (hz : xs.length <= 16777216) (hs : SqT K F a vs) (hd : DatVs K F vs xs) : Yld K (Itt K a) F B xs where
 len := by rw [eB]; exact hz
 go := fun i F1 H1 h1 h2 h3 hi => by
  have q := hs.same (H' := H1) (fun x o z => h2 x o (h1 x o z))
  exact ⟨vs, vs[i]'(by rw [hd.length]; exact hi), q, by simp⟩
 yld := fun i F1 H1 v H2 x h1 h2 h3 y e => by
  obtain ⟨rfl, y⟩ := y
  have q := y vs (hs.same (fun x o z => h2 x o (h1 x o z)))
  obtain ⟨d, e2, r⟩ := hd.get q
  rw [e] at e2
  cases e2
  exact ⟨F1, Ext.refl h2, r.same h1⟩
 stop := fun F1 H1 h1 h2 h3 => ⟨vs, hs.same (fun x o z => h2 x o (h1 x o z)), by rw [hd.length]; exact Nat.le_refl _⟩
theorem zI {K : Frag} {F B : Hp} {z : Str} (hz : z.cps.toList.length <= 16777216) : Yld K (Its z) F B (z.cps.toList.map fun u => .str ⟨#[u]⟩) where
 len := by rw [eB, List.length_map]; exact hz
 go := fun i F1 H1 h1 h2 h3 hi => by
  rw [List.length_map, Array.length_toList] at hi
  exact hi
 yld := fun i F1 H1 v H2 x h1 h2 h3 y e => by
  obtain ⟨rfl, u, hu, rfl⟩ := y
  rw [List.getElem?_map, Array.getElem?_toList, hu] at e
  cases e
  exact ⟨F1, Ext.refl h2, .str _⟩
 stop := fun F1 H1 h1 h2 h3 => by
  show (z.cps.toList.map _).length = z.cps.size
  rw [List.length_map, Array.length_toList]
section
variable {X : Cx} {c : Ct} {E : XK} {tg e a b : Expr} {pos : Pos}
theorem aA9 {f : Sg -> R PyData} (hK : X.K = c.K) (h : PD X c E e f) : PI0 X c E tg e (e1 bT f) := PI.imp (PI.or (aCC h) (aCK h)) fun σ H Q ⟨ρ, F, ab, k⟩ => by
 have k' := Rk.bind k
 cases hf : f ρ with
 | bad => rw [hf] at k'; exact k'.elim
 | ex x => rw [hf] at k'; exact .inl ⟨ρ, F, ab, by rw [hf]; exact k'⟩
 | ok d =>
  rw [hf] at k'
  have k2 := Rk.ok k'
  unfold bT at k2
  split at k2
  ·rename_i xs
   split at k2
   ·rename_i hz
    refine .inl ⟨ρ, F, ab, ?_⟩
    rw [hf]
    intro v F' H' s r
    obtain ⟨p, vs, rfl, h1, h2⟩ := DatV.lst_of r
    refine ⟨p, rfl, .inl ⟨⟨vs, ?_⟩, ?_⟩⟩
    · rw [hK]; exact h1.same s.fh
    · rw [hK]; exact Rk.ok k2 _ F' H' s (w9 (H := H') hz (fun H1 q _ => h1.same q) h2)
   ·exact k2.elim
  ·rename_i xs
   split at k2
   ·rename_i hz
    refine .inl ⟨ρ, F, ab, ?_⟩
    rw [hf]
    intro v F' H' s r
    obtain ⟨p, vs, rfl, h1, h2⟩ := DatV.tup_of r
    refine ⟨p, rfl, .inr ⟨⟨vs, ?_⟩, ?_⟩⟩
    · rw [hK]; exact h1.same s.fh
    · rw [hK]; exact Rk.ok k2 _ F' H' s (zH hz h1 h2)
   ·exact k2.elim
  ·rename_i z
   split at k2
   ·rename_i hz
    refine .inr ⟨ρ, F, ab, ?_⟩
    rw [hf]
    intro v F' H' s r
    obtain rfl := DatV.str_of r
    exact ⟨z, rfl, Rk.ok k2 _ F' H' s (zI hz)⟩
   ·exact k2.elim
  ·exact k2.elim
theorem rW {f : Sg -> R PyData} (hK : X.K = c.K) (h : PR X c E e f) : PIf X c E tg e (e1 bT f) := PI.imp (PI.or (aCC h) (aCK h)) fun σ H Q ⟨ρ, F, ab, k⟩ => by
 have k' := Rk.bind k
 cases hf : f ρ with
 | bad => rw [hf] at k'; exact k'.elim
 | ex x => rw [hf] at k'; exact .inl ⟨ρ, F, ab, by rw [hf]; exact k'⟩
 | ok d =>
  rw [hf] at k'
  have k2 := Rk.ok k'
  unfold bT at k2
  split at k2
  ·rename_i xs
   split at k2
   ·rename_i hz
    refine .inl ⟨ρ, F, ab, ?_⟩
    rw [hf]
    intro v F' H' s r
    obtain ⟨p, vs, rfl, h1, h2⟩ := bA.lst_of s.fh r
    refine ⟨p, rfl, .inl ⟨⟨vs, ?_⟩, ?_⟩⟩
    · rw [hK]; exact h1
    · rw [hK]; exact Rk.ok k2 _ H' F' H' s (bY _) (w9 (H := H') hz (fun H1 _ q => h1.same q) h2)
   ·exact k2.elim
  ·rename_i xs
   split at k2
   ·rename_i hz
    refine .inl ⟨ρ, F, ab, ?_⟩
    rw [hf]
    intro v F' H' s r
    obtain ⟨p, vs, rfl, h1, _, h2⟩ := bA.tup_of s.fh r
    refine ⟨p, rfl, .inr ⟨⟨vs, ?_⟩, ?_⟩⟩
    · rw [hK]; exact h1.same s.fh
    · rw [hK]; exact Rk.ok k2 _ H' F' H' s (bY _) (zH hz h1 h2)
   ·exact k2.elim
  ·rename_i z
   split at k2
   ·rename_i hz
    refine .inr ⟨ρ, F, ab, ?_⟩
    rw [hf]
    intro v F' H' s r
    obtain rfl := bA.str_of r
    exact ⟨z, rfl, Rk.ok k2 _ H' F' H' s (bY _) (zI hz)⟩
   ·exact k2.elim
  ·exact k2.elim
def lX (lo : Int) (n : Nat) : List PyData := (List.range n).map fun i : Nat => .int (lo + i)
def jS (lo hi : Int) : R (List PyData) := if -4611686018427387904 <= lo /\ lo < 4611686018427387904 /\ -4611686018427387904 <= hi /\ hi < 4611686018427387904 /\ hi - lo <= 16777216 then .ok (lX lo (hi - lo).toNat) else .bad
def iH (f : Sg -> R PyData) : Sg -> R (List PyData) := fun ρ => (f ρ).bind fun x => match x with
 | .int j => jS 0 j
 | _ => .bad
def aG3 (f g : Sg -> R PyData) : Sg -> R (List PyData) := fun ρ => (f ρ).bind fun x => (g ρ).bind fun y => match x, y with
 | .int i, .int j => jS i j
 | _, _ => .bad
theorem aC0 {K : Frag} {F B : Hp} {lo : Int} {n : Nat} (hz : n <= 16777216) : Yld K (Itr lo n) F B (lX lo n) where
 len := by unfold lX; rw [eB, List.length_map, List.length_range]; exact hz
 go := fun i F1 H1 h1 h2 h3 hi => by unfold lX at hi; rw [List.length_map, List.length_range] at hi; exact hi
 yld := fun i F1 H1 v H2 x h1 h2 h3 y e => by
  obtain ⟨rfl, rfl⟩ := y
  unfold lX at e
  rw [List.getElem?_map] at e
  cases q : (List.range n)[i]? with
  | none => rw [q] at e; cases e
  | some j =>
   rw [q] at e
   cases e
   obtain ⟨hl, hv⟩ := List.getElem?_eq_some_iff.mp q
   rw [List.getElem_range] at hv
   subst hv
   exact ⟨F1, Ext.refl h2, .int _⟩
 stop := fun F1 H1 h1 h2 h3 => by show n <= _; unfold lX; rw [List.length_map, List.length_range]; exact Nat.le_refl _
theorem lK {f : Sg -> R PyData} (h : PI X tg e (aFN (gW (tV (bO c) c E f) lR))) : PI0 X c E tg e (iH f) := PI.imp h fun σ H Q ⟨ρ, F, ab, k⟩ => by
 refine ⟨ρ, F, ab, (Rk.bind k).imp fun x _ q v F' H' s r => ?_⟩
 cases x with
 | int j =>
  have q' : Rk c E F H (jS 0 j) _ := q
  unfold jS at q'
  split at q'
  ·rename_i hz
   obtain rfl := bA.int_of r
   refine ⟨j, rfl, by omega, by omega, ?_⟩
   have e0 : (j - 0).toNat = j.toNat := by rw [Int.sub_zero]
   rw [<- e0]
   exact Rk.ok q' _ F' H' s (aC0 (by omega))
  ·exact q'.elim
 | _ => exact q.elim
end
end Fl
namespace Fl
open PySem L2 PyProof.Rows
def f9 (js : List (Option Nat)) (ρ : Sg) : Sg := js.map fun o => o.bind fun j => (ρ[j]?).join
theorem uH {α : Type} {js : List (Option Nat)} {ρ : List (Option α)} {i : Nat} {a : α} (h : (js.map fun o => o.bind fun j => (ρ[j]?).join)[i]? = some (some a)) : ∃ j, js[i]? = some (some j) /\ ρ[j]? = some (some a) := by
 rw [List.getElem?_map] at h
 cases e : js[i]? with
 | none => rw [e] at h; cases h
 | some o =>
  rw [e] at h
  have h' : (o.bind fun j => (ρ[j]?).join) = some a := Option.some.inj h
  cases o with
  | none => cases h'
  | some j =>
   have h2 : (ρ[j]?).join = some a := h'
   cases e2 : ρ[j]? with
   | none => rw [e2] at h2; cases h2
   | some o2 => rw [e2] at h2; have : o2 = some a := h2; subst this; exact ⟨j, rfl, e2⟩
theorem uI {α : Type} {js : List (Option Nat)} {ρ : List (Option α)} {i j : Nat} {a : α} (h : js[i]? = some (some j)) (h2 : ρ[j]? = some (some a)) : (js.map fun o => o.bind fun j => (ρ[j]?).join)[i]? = some (some a) := by
 rw [List.getElem?_map, h]
 show some ((ρ[j]?).join) = _
 rw [h2]; rfl
def uJ (js : List (Option Nat)) : Prop := ∀ (i k j : Nat), js[i]? = some (some j) -> js[k]? = some (some j) -> i = k
theorem tJ {js : List (Option Nat)} (h : js.Pairwise fun a b => a = none \/ a ≠ b) : uJ js := fun i k j h1 h2 => by
 obtain ⟨l1, e1⟩ := List.getElem?_eq_some_iff.mp h1
 obtain ⟨l2, e2⟩ := List.getElem?_eq_some_iff.mp h2
 rw [List.pairwise_iff_getElem] at h
 rcases Nat.lt_trichotomy i k with q | q | q
 ·rcases h i k l1 l2 q with z | z
  · rw [e1] at z; cases z
  · exact absurd (e1.trans e2.symm) z
 ·exact q
 ·rcases h k i l2 l1 q with z | z
  · rw [e2] at z; cases z
  · exact absurd (e2.trans e1.symm) z
theorem Ab.cap {c : Ct} {ρ : Sg} {σ σ0 : L2.St} {F H : Hp} {js : List (Option Nat)} (b : Ab c ρ σ F H) (ho : uJ js) (k : g7 (j3 js σ) σ0) : Ab c (f9 js ρ) σ0 F H where
 len := by rw [k.1]; unfold f9 j3; rw [List.length_map, List.length_map]
 fh := b.fh
 slot := fun i a h => by
  obtain ⟨j, h1, h2⟩ := uH h
  obtain ⟨v, h3, h4⟩ := b.slot j a h2
  exact ⟨v, k.2 i v (uI h1 h3), h4⟩
 apart := fun i i' a a' hne h h' o o' => by
  obtain ⟨j, h1, h2⟩ := uH h
  obtain ⟨j', h1', h2'⟩ := uH h'
  have hj : j ≠ j' := fun z => hne (ho i i' j h1 (by rw [h1', z]))
  obtain ⟨v, h3, _⟩ := b.slot j a h2
  obtain ⟨v', h3', _⟩ := b.slot j' a' h2'
  rw [k.2 i v (uI h1 h3), k.2 i' v' (uI h1' h3'), <- h3, <- h3']
  exact b.apart j j' a a' hj h2 h2' o o'
 f0 := b.f0
 h0 := b.h0
 n0 := b.n0
 t0 := b.t0
def R.noEx {α : Type} : R α -> R α
 | .ex _ => .bad
 | r => r
@[simp] theorem R.noEx_ok {α : Type} (a : α) : (R.ok a).noEx = .ok a := id rfl
def xA {α : Type} : Option α -> R α
 | some a => .ok a
 | none => .bad
@[simp] theorem pF {α : Type} (a : α) : xA (some a) = .ok a := id rfl
def compL (fs : PyData -> Sg -> Option Sg) (ft : Sg -> R Bool) (fe : Sg -> R PyData) (ρ0 : Sg) : List PyData -> R (List PyData)
 | [] => .ok []
 | x :: t => (xA (fs x ρ0)).bind fun ρ1 => (ft ρ1).noEx.bind fun b => if b = true then (fe ρ1).noEx.bind fun y => (compL fs ft fe ρ0 t).bind fun ys => .ok (y :: ys) else compL fs ft fe ρ0 t
theorem n6 {fs : PyData -> Sg -> Option Sg} {ft : Sg -> R Bool} {fe : Sg -> R PyData} {ρ0 : Sg} {e : Er} : ∀ {xs : List PyData}, compL fs ft fe ρ0 xs ≠ .ex e
 | [] => fun h => by cases h
 | x :: t => fun h => by
  unfold compL at h
  cases h1 : fs x ρ0 with
  | none => rw [h1] at h; cases h
  | some ρ1 =>
   rw [h1] at h
   have h : ((ft ρ1).noEx.bind fun b => if b = true then (fe ρ1).noEx.bind fun y => (compL fs ft fe ρ0 t).bind fun ys => .ok (y :: ys) else compL fs ft fe ρ0 t) = .ex e := h
   cases h2 : ft ρ1 with
   | bad => rw [h2] at h; cases h
   | ex _ => rw [h2] at h; cases h
   | ok b =>
    rw [h2] at h
    have h : (if b = true then (fe ρ1).noEx.bind fun y => (compL fs ft fe ρ0 t).bind fun ys => .ok (y :: ys) else compL fs ft fe ρ0 t) = .ex e := h
    cases b with
    | false => exact n6 (xs := t) h
    | true =>
     have h : ((fe ρ1).noEx.bind fun y => (compL fs ft fe ρ0 t).bind fun ys => .ok (y :: ys)) = .ex e := h
     cases h3 : fe ρ1 with
     | bad => rw [h3] at h; cases h
     | ex _ => rw [h3] at h; cases h
     | ok y =>
      rw [h3] at h
      have h : ((compL fs ft fe ρ0 t).bind fun ys => .ok (y :: ys)) = .ex e := h
      cases h4 : compL fs ft fe ρ0 t with
      | bad => rw [h4] at h; cases h
      | ex e' => exact n6 (xs := t) (e := e') h4
      | ok ys => rw [h4] at h; cases h
theorem aBA {fs : PyData -> Sg -> Option Sg} {ft : Sg -> R Bool} {fe : Sg -> R PyData} {ρ0 : Sg} {x : PyData} {t ys : List PyData} (h : compL fs ft fe ρ0 (x :: t) = .ok ys) :
  ∃ ρ1 b, fs x ρ0 = some ρ1 /\ ft ρ1 = .ok b /\ ((b = true /\ ∃ y zs, fe ρ1 = .ok y /\ compL fs ft fe ρ0 t = .ok zs /\ ys = y :: zs) \/ (b = false /\ compL fs ft fe ρ0 t = .ok ys)) := by
 unfold compL at h
 cases h1 : fs x ρ0 with
 | none => rw [h1] at h; cases h
 | some ρ1 =>
  rw [h1] at h
  have h : ((ft ρ1).noEx.bind fun b => if b = true then (fe ρ1).noEx.bind fun y => (compL fs ft fe ρ0 t).bind fun ys => .ok (y :: ys) else compL fs ft fe ρ0 t) = .ok ys := h
  cases h2 : ft ρ1 with
  | bad => rw [h2] at h; cases h
  | ex _ => rw [h2] at h; cases h
  | ok b =>
   rw [h2] at h
   have h : (if b = true then (fe ρ1).noEx.bind fun y => (compL fs ft fe ρ0 t).bind fun ys => .ok (y :: ys) else compL fs ft fe ρ0 t) = .ok ys := h
   refine ⟨ρ1, b, rfl, h2, ?_⟩
   cases b with
   | false => exact .inr ⟨rfl, h⟩
   | true =>
    refine .inl ⟨rfl, ?_⟩
    have h : ((fe ρ1).noEx.bind fun y => (compL fs ft fe ρ0 t).bind fun ys => .ok (y :: ys)) = .ok ys := h
    cases h3 : fe ρ1 with
    | bad => rw [h3] at h; cases h
    | ex _ => rw [h3] at h; cases h
    | ok y =>
     rw [h3] at h
     have h : ((compL fs ft fe ρ0 t).bind fun ys => .ok (y :: ys)) = .ok ys := h
     cases h4 : compL fs ft fe ρ0 t with
     | bad => rw [h4] at h; cases h
     | ex e' => rw [h4] at h; cases h
     | ok zs => rw [h4] at h; cases h; exact ⟨y, zs, rfl, rfl, rfl⟩
def fG (js : List (Option Nat)) (fi : Sg -> R (List PyData)) (fs : PyData -> Sg -> Option Sg) (ft : Sg -> R Bool) (fe : Sg -> R PyData) : Sg -> R (List PyData) := fun ρ => (fi ρ).bind fun xs => compL fs ft fe (f9 js ρ) xs
def gS : Sg -> R Bool := fun _ => .ok true
section
variable {X : Cx} {c : Ct} {E : XK} {e a b : Expr} {pos : Pos}
theorem fE : L2.PIf X [] (tTf c E gS) := fun pins s σ H Q I ⟨ρ, F, ab, k⟩ => L2.fE pins s σ H Q I (Rk.ok k F H (Ext.refl ab.fh))
theorem aEK {js : List (Option Nat)} {is : List Nat} {σ σ0 σ1 : L2.St} (k : g7 (j3 js σ) σ0) (hl : σ1.length = σ0.length) (h : ∀ j : Nat, j ∉ is -> σ1[j]? = σ0[j]?) (hi : ∀ i ∈ is, js[i]? = some none) : g7 (j3 js σ) σ1 :=
 ⟨hl.trans k.1, fun i v e => by
  by_cases q : i ∈ is
  ·unfold j3 at e
   rw [List.getElem?_map, hi i q] at e
   cases e
  ·rw [h i q]; exact k.2 i v e⟩
theorem vJ {N : List Str} {js : List (Option Nat)} {scope : Scope} {tg elt : Expr} {ifs : List Expr} {fi : Sg -> R (List PyData)} {fs : PyData -> Sg -> Option Sg} {ft : Sg -> R Bool} {fe : Sg -> R PyData} {is : List Nat} (ho : uJ js) (hi : ∀ i ∈ is, js[i]? = some none)
  (hb : ∀ (cl : List (Str × Addr)) (C : Addr) (s : Shared) (H0 : Hp) (fp : List Addr), ∃ g, PG (fZ X N scope cl C s H0 fp) tg g /\ Tg c g fs is /\ L2.PIf (fZ X N scope cl C s H0 fp) ifs (tTf c E0 ft) /\ PD (fZ X N scope cl C s H0 fp) c E0 elt fe)
  {σ : L2.St} {H : Hp} {Q : VK} (h : tV (aA4 c) c E (fG js fi fs ft fe) σ H Q) : sR X N scope js tg elt ifs (tI c E fi) σ H Q := by
 obtain ⟨ρ, F, ab, k⟩ := h
 refine ⟨ρ, F, ab, (Rk.bind k).imp fun xs _ q J B F1 H1 s1 sb yl => ?_⟩
 cases hc : compL fs ft fe (f9 js ρ) xs with
 | bad => rw [hc] at q; exact q.elim
 | ex e => exact absurd hc n6
 | ok ys =>
  rw [hc] at q
  refine aGO (n := xs.length) (fun i acc H' => ∃ F', Ext F1 H1 F' H' /\ acc.length <= i /\ ∃ zs rest, DatVs c.K F' acc zs /\ compL fs ft fe (f9 js ρ) (xs.drop i) = .ok rest /\ zs ++ rest = ys) yl.len ⟨F1, Ext.refl s1.fh, Nat.le_refl _, [], ys, .nil, hc, rfl⟩ ?_ ?_ ?_ ?_ ?_
  ·rintro i acc H' _ ⟨F', _, h, _⟩; exact h
  ·rintro i acc H' hlt ⟨F', e1, _⟩
   exact yl.go i F' H' e1.ff e1.fh (fun a o z => e1.hh a o (sb a o z)) hlt
  ·rintro acc H' ⟨F', e1, _⟩
   exact yl.stop F' H' e1.ff e1.fh (fun a o z => e1.hh a o (sb a o z))
  ·rintro i v acc Ha Hb hlt ⟨F', e1, hlen, zs, rest, hd, hr, hz⟩ hy
   obtain ⟨F2, e2, rx⟩ := yl.yld i F' Ha v Hb xs[i] e1.ff e1.fh (fun a o z => e1.hh a o (sb a o z)) hy (List.getElem?_eq_getElem hlt)
   have hdr : xs.drop i = xs[i] :: xs.drop (i + 1) := List.drop_eq_getElem_cons hlt
   rw [hdr] at hr
   obtain ⟨ρ1, bb, hs, ht, hcase⟩ := aBA hr
   intro cl C s H0 fp
   obtain ⟨g, hg, tg', hif, he⟩ := hb cl C s H0 fp
   refine ⟨g, _, _, hg, hif, he, fun σ0 k0 => ?_⟩
   have ab0 : Ab c (f9 js ρ) σ0 F2 Hb := (ab.ext (s1.trans (e1.trans e2))).cap ho k0
   refine tg' v xs[i] _ ρ1 σ0 F2 Hb _ ab0 rx hs fun σ1 hl1 hk1 ab1 => ⟨aEK k0 hl1 hk1 hi, ρ1, F2, ab1, ?_⟩
   rw [ht]
   intro F3 H3 e3
   rcases hcase with ⟨rfl, y, ws, hy1, hy2, rfl⟩ | ⟨rfl, hy2⟩
   ·refine wJ ⟨ρ1, F3, ab1.ext e3, ?_⟩
    rw [hy1]
    intro w F4 H4 e4 rw'
    refine ⟨F4, e1.trans (e2.trans (e3.trans e4)), by rw [List.length_append, List.length_singleton]; omega, zs ++ [y], ws, (hd.same (e2.trans (e3.trans e4)).ff).append (.cons rw' .nil), hy2, by rw [List.append_assoc]; exact hz⟩
   ·exact wI ⟨F3, e1.trans (e2.trans e3), by omega, zs, rest, hd.same (e2.trans e3).ff, hy2, hz⟩
  ·rintro acc H' ⟨F', e1, _, zs, rest, hd, hr, hz⟩ p hp
   rw [List.drop_length] at hr
   cases hr
   rw [List.append_nil] at hz
   subst hz
   exact Rk.ok q (.ref p) F' _ (s1.trans (e1.trans (Ext.own e1.fh hp))) ⟨p, acc, rfl, cB (s1.trans e1).hh hp, a7, cB e1.fh hp, hd⟩
theorem jI {N : List Str} {js : List (Option Nat)} {scope : Scope} {tg elt : Expr} {ifs : List Expr} {fi : Sg -> R (List PyData)} {fs : PyData -> Sg -> Option Sg} {ft : Sg -> R Bool} {fe : Sg -> R PyData} {is : List Nat} (h : PE X e (sR X N scope js tg elt ifs (tI c E fi))) (ho : js.Pairwise fun a b => a = none \/ a ≠ b) (hi : ∀ i ∈ is, js[i]? = some none)
 (hb : ∀ (cl : List (Str × Addr)) (C : Addr) (s : Shared) (H0 : Hp) (fp : List Addr), ∃ g, PG (fZ X N scope cl C s H0 fp) tg g /\ Tg c g fs is /\ L2.PIf (fZ X N scope cl C s H0 fp) ifs (tTf c E0 ft) /\ PD (fZ X N scope cl C s H0 fp) c E0 elt fe) :
 PN X c E e (fG js fi fs ft fe) := PE.imp h fun σ H Q q => vJ (tJ ho) hi hb q
theorem zJ {i : Nat} {st : Stmt} {N : List Str} {js : List (Option Nat)} {scope : Scope} {tg elt : Expr} {ifs : List Expr} {fi : Sg -> R (List PyData)} {fs : PyData -> Sg -> Option Sg} {ft : Sg -> R Bool} {fe : Sg -> R PyData} {is : List Nat} (h : PS X st (kU (sR X N scope js tg elt ifs (tI c E fi)) (jO i))) (ho : js.Pairwise fun a b => a = none \/ a ≠ b) (hi : ∀ i ∈ is, js[i]? = some none)
 (hb : ∀ (cl : List (Str × Addr)) (C : Addr) (s : Shared) (H0 : Hp) (fp : List Addr), ∃ g, PG (fZ X N scope cl C s H0 fp) tg g /\ Tg c g fs is /\ L2.PIf (fZ X N scope cl C s H0 fp) ifs (tTf c E0 ft) /\ PD (fZ X N scope cl C s H0 fp) c E0 elt fe) :
 PSf X c E st (cR i (fG js fi fs ft fe)) := eQ (PS.imp h fun D σ H q => vJ (tJ ho) hi hb q)
end
def lY (fs : PyData -> Sg -> Option Sg) (fb : Sg -> R Fw) : List PyData -> Sg -> R Fw
 | [], ρ => .ok (.nx ρ)
 | x :: t, ρ => (xA (fs x ρ)).bind fun ρ1 => (fb ρ1).bind fun w => match w with
  | .nx ρ2 => lY fs fb t ρ2
  | .ct ρ2 => lY fs fb t ρ2
  | .bk ρ2 => .ok (.nx ρ2)
  | .rt a => .ok (.rt a)
def jT (fi : Sg -> R (List PyData)) (fs : PyData -> Sg -> Option Sg) (fb : Sg -> R Fw) : Sg -> R Fw := fun ρ => (fi ρ).bind fun xs => lY fs fb xs ρ
section
variable {X : Cx} {c : Ct} {E : XK} {e a b : Expr} {pos : Pos} {st : Stmt}
theorem eW {g : TG} {fi : Sg -> R (List PyData)} {fs : PyData -> Sg -> Option Sg} {is : List Nat} {fb : Sg -> R Fw} (hg : Tg c g fs is) (h : PS X st (aIY (tI0 c E fi) g (tSf c E fb))) : PSf X c E st (jT fi fs fb) := PS.imp h fun D σ H ⟨ρ, F, ab, k⟩ => by
 refine ⟨ρ, F, ab, (Rk.bind k).imp fun xs _ q J F1 H1 s1 yl => ?_⟩
 refine ⟨fun i m σ H => m = xs.length - i /\ i <= xs.length /\ ∃ ρ' F', aK F1 F' /\ Ab c ρ' σ F' H /\ Rk c E F' H (lY fs fb (xs.drop i) ρ') (i6 c F D), ⟨xs.length, by simp, Nat.zero_le _, ρ, F1, bY _, ab.ext s1, Rk.ext s1 q⟩, ?_⟩
 rintro i m σ2 H2 ⟨rfl, hi, ρ2, F2, s2, ab2, k2⟩
 by_cases hlt : i < xs.length
 ·refine .inr ⟨yl.go i F2 H2 s2 ab2.fh pE hlt, fun σ' H' => ∃ ρ' F', aK F1 F' /\ Ab c ρ' σ' F' H' /\ Rk c E F' H' (lY fs fb (xs.drop (i + 1)) ρ') (i6 c F D), fun σ' H' w => ⟨xs.length - (i + 1), by omega, rfl, hlt, w⟩, fun v H3 y => ?_⟩
  obtain ⟨F3, e3, rv⟩ := yl.yld i F2 H2 v H3 xs[i] s2 ab2.fh pE y (List.getElem?_eq_getElem hlt)
  have hdr : xs.drop i = xs[i] :: xs.drop (i + 1) := List.drop_eq_getElem_cons hlt
  rw [hdr] at k2
  unfold lY at k2
  cases h1 : fs xs[i] ρ2 with
  | none => rw [h1] at k2; exact k2.elim
  | some ρ3 =>
   rw [h1] at k2
   refine hg v xs[i] ρ2 ρ3 σ2 F3 H3 _ (ab2.ext e3) rv h1 fun σ3 _ _ ab3 => ⟨ρ3, F3, ab3, ?_⟩
   have k3 : Rk c E F2 H2 (fb ρ3) _ := Rk.bind k2
   cases h2 : fb ρ3 with
   | bad => rw [h2] at k3; exact k3.elim
   | ex e => rw [h2] at k3; exact k3
   | ok w =>
    rw [h2] at k3
    have k4 := Rk.ok k3
    have sF : aK F F3 := fun a o z => e3.ff a o (s2 a o (s1.ff a o z))
    cases w with
    | nx ρ4 => exact fun σ' F' H' s' ab' => ⟨ρ4, F', fun a o z => s' a o (e3.ff a o (s2 a o z)), ab', k4⟩
    | ct ρ4 => exact fun σ' F' H' s' ab' => ⟨ρ4, F', fun a o z => s' a o (e3.ff a o (s2 a o z)), ab', k4⟩
    | bk ρ4 => exact fun σ' F' H' s' ab' => Rk.ok k4 σ' F' H' (fun a o z => s' a o (sF a o z)) ab'
    | rt a => exact fun v F' H' z r => Rk.ok k4 v F' H' z r
 ·have e : i = xs.length := by omega
  subst e
  rw [List.drop_length] at k2
  exact .inl ⟨yl.stop F2 H2 s2 ab2.fh pE, Rk.ok k2 σ2 F2 H2 (fun a o z => s2 a o (s1.ff a o z)) ab2⟩
end
def cH (t : Sg -> R Bool) (b : Sg -> R Fw) : Nat -> Sg -> R Fw
 | 0, _ => .bad
 | n + 1, ρ => (t ρ).bind fun k => if k = true then (b ρ).bind fun w => match w with
   | .nx ρ' => cH t b n ρ'
   | .ct ρ' => cH t b n ρ'
   | .bk ρ' => .ok (.nx ρ')
   | .rt a => .ok (.rt a)
  else .ok (.nx ρ)
open Classical in
def a9 (t : Sg -> R Bool) (b : Sg -> R Fw) : Sg -> R Fw := fun ρ => if h : ∃ n, cH t b n ρ ≠ .bad then cH t b h.choose ρ else .bad
theorem R.bind_mono {α β : Type} {r : R α} {f g : α -> R β} (h : r.bind f ≠ .bad) (hfg : ∀ a, f a ≠ .bad -> g a = f a) : r.bind g = r.bind f := by
 cases r with
 | bad => rfl
 | ex e => rfl
 | ok a => exact hfg a h
theorem kI {t : Sg -> R Bool} {b : Sg -> R Fw} : ∀ {n m : Nat} {ρ : Sg}, n <= m -> cH t b n ρ ≠ .bad -> cH t b m ρ = cH t b n ρ
 | 0, _, _, _, h => absurd rfl h
 | n + 1, 0, _, hm, _ => absurd hm (by omega)
 | n + 1, m + 1, ρ, hm, h => by
  unfold cH at h ⊢
  refine R.bind_mono h fun k hk => ?_
  cases k with
  | false => rfl
  | true =>
   refine R.bind_mono (r := b ρ) hk fun w hw => ?_
   cases w with
   | nx ρ' => exact kI (by omega) hw
   | ct ρ' => exact kI (by omega) hw
   | bk ρ' => rfl
   | rt a => rfl
theorem pG {t : Sg -> R Bool} {b : Sg -> R Fw} {ρ : Sg} {n : Nat} (h : cH t b n ρ ≠ .bad) : a9 t b ρ = cH t b n ρ := by
 have hx : ∃ n, cH t b n ρ ≠ .bad := ⟨n, h⟩
 unfold a9
 rw [dif_pos hx]
 have hc := hx.choose_spec
 rcases Nat.le_total n hx.choose with q | q
 · exact kI q h
 · exact (kI q hc).symm
theorem pH (t : Sg -> R Bool) (b : Sg -> R Fw) (ρ : Sg) : a9 t b ρ = (t ρ).bind fun k => if k = true then (b ρ).bind fun w => match w with
      | .nx ρ' => a9 t b ρ'
      | .ct ρ' => a9 t b ρ'
      | .bk ρ' => .ok (.nx ρ')
      | .rt a => .ok (.rt a)
    else .ok (.nx ρ) := by
  have key : ∀ n, (∀ k, t ρ = .ok k -> k = true -> ∀ w, b ρ = .ok w -> ∀ ρ', (w = .nx ρ' \/ w = .ct ρ') -> a9 t b ρ' = cH t b n ρ') -> cH t b (n + 1) ρ = (t ρ).bind fun k => if k = true then (b ρ).bind fun w => match w with
      | .nx ρ' => a9 t b ρ'
      | .ct ρ' => a9 t b ρ'
      | .bk ρ' => .ok (.nx ρ')
      | .rt a => .ok (.rt a)
    else .ok (.nx ρ) := by
    intro n h
    unfold cH
    cases ht : t ρ with
    | bad => rfl
    | ex e => rfl
    | ok k =>
      cases k with
      | false => rfl
      | true =>
        show ((b ρ).bind _) = ((b ρ).bind _)
        cases hb : b ρ with
        | bad => rfl
        | ex e => rfl
        | ok w =>
          cases w with
          | nx ρ' => exact (h true ht rfl _ hb ρ' (.inl rfl)).symm
          | ct ρ' => exact (h true ht rfl _ hb ρ' (.inr rfl)).symm
          | bk ρ' => rfl
          | rt a => rfl
  by_cases hx : ∃ n, cH t b n ρ ≠ .bad
  · obtain ⟨n, hn⟩ := hx
    cases n with
    | zero => exact absurd rfl hn
    | succ n =>
      rw [pG hn]
      refine key n fun k ht hk w hb ρ' hw => ?_
      subst hk
      refine pG fun z => hn ?_
      unfold cH
      rw [ht]
      show ((b ρ).bind _) = _
      rw [hb]
      rcases hw with rfl | rfl
      · exact z
      · exact z
  · have h0 : a9 t b ρ = .bad := by unfold a9; rw [dif_neg hx]
    rw [h0]
    have hall : ∀ n, cH t b n ρ = .bad := fun n => Classical.byContradiction fun z => hx ⟨n, z⟩
    cases ht : t ρ with
    | bad => rfl
    | ex e => have := hall 1; unfold cH at this; rw [ht] at this; cases this
    | ok k =>
      cases k with
      | false => have := hall 1; unfold cH at this; rw [ht] at this; cases this
      | true =>
        show R.bad = ((b ρ).bind _)
        cases hb : b ρ with
        | bad => rfl
        | ex e => have := hall 1; unfold cH at this; rw [ht] at this; change ((b ρ).bind _) = _ at this; rw [hb] at this; cases this
        | ok w =>
          have nxt : ∀ ρ', (w = .nx ρ' \/ w = .ct ρ') -> a9 t b ρ' = .bad := fun ρ' hw => by
            unfold a9
            rw [dif_neg]
            rintro ⟨n, hn⟩
            refine hn ?_
            have := hall (n + 1)
            unfold cH at this
            rw [ht] at this
            change ((b ρ).bind _) = _ at this
            rw [hb] at this
            rcases hw with rfl | rfl <;> exact this
          cases w with
          | nx ρ' => exact (nxt ρ' (.inl rfl)).symm
          | ct ρ' => exact (nxt ρ' (.inr rfl)).symm
          | bk ρ' => have := hall 1; unfold cH at this; rw [ht] at this; change ((b ρ).bind _) = _ at this; rw [hb] at this; cases this
          | rt a => have := hall 1; unfold cH at this; rw [ht] at this; change ((b ρ).bind _) = _ at this; rw [hb] at this; cases this
section
variable {X : Cx} {c : Ct} {E : XK} {st : Stmt}
theorem dW {t : Sg -> R Bool} {fb : Sg -> R Fw} (h : PS X st (aBY (tTf c E t) (tSf c E fb))) : PSf X c E st (a9 t fb) := PS.imp h fun D σ H ⟨ρ, F, ab, k⟩ => by
 have hx : ∃ n, cH t fb n ρ ≠ .bad := Classical.byContradiction fun z => by
  have : a9 t fb ρ = .bad := by unfold a9; rw [dif_neg z]
  rw [this] at k
  exact k
 obtain ⟨n, hn⟩ := hx
 rw [pG hn] at k
 refine ⟨fun m σ H => ∃ ρ' F', aK F F' /\ Ab c ρ' σ F' H /\ Rk c E F' H (cH t fb m ρ') (i6 c F D), ⟨n, ρ, F, bY F, ab, k⟩, ?_⟩
 rintro m σ1 H1 ⟨ρ1, F1, s1, ab1, k1⟩
 cases m with
 | zero => exact k1.elim
 | succ m =>
  unfold cH at k1
  refine ⟨ρ1, F1, ab1, (Rk.bind k1).imp fun b _ q F2 H2 e2 => ?_⟩
  have ab2 := ab1.ext e2
  cases b with
  | false => exact wI (Rk.ok q σ1 F2 H2 (fun a o z => e2.ff a o (s1 a o z)) ab2)
  | true =>
   refine wJ ⟨fun σ' H' => ∃ ρ' F', aK F F' /\ Ab c ρ' σ' F' H' /\ Rk c E F' H' (cH t fb m ρ') (i6 c F D), fun σ' H' w => ⟨m, by omega, w⟩, ρ1, F2, ab2, ?_⟩
   have q' : Rk c E F1 H1 (fb ρ1) _ := Rk.bind (r := fb ρ1) q
   cases h2 : fb ρ1 with
   | bad => rw [h2] at q'; exact q'.elim
   | ex e => rw [h2] at q'; exact q'
   | ok w =>
    rw [h2] at q'
    have k4 := Rk.ok q'
    have sF : aK F F2 := fun a o z => e2.ff a o (s1 a o z)
    cases w with
    | nx ρ4 => exact fun σ' F' H' s' ab' => ⟨ρ4, F', fun a o z => s' a o (sF a o z), ab', k4⟩
    | ct ρ4 => exact fun σ' F' H' s' ab' => ⟨ρ4, F', fun a o z => s' a o (sF a o z), ab', k4⟩
    | bk ρ4 => exact fun σ' F' H' s' ab' => Rk.ok k4 σ' F' H' (fun a o z => s' a o (sF a o z)) ab'
    | rt a => exact fun v F' H' z r => Rk.ok k4 v F' H' z r
end
end Fl
namespace Fl
open PySem L2 PyProof.Rows
def spG (K : Frag) (mg : Str -> Option Value) (T F1 : Hp) (n : Nat) (G : List PyData -> R PyData) : Sp := fun vs H Q E => ∃ F ds, aK F1 F /\ aK T F /\ aK F H /\ DatVs K F vs ds /\ ds.length = n /\ match G ds with
 | .bad => False
 | .ok d => ∀ v F' H', Ext F H F' H' -> DatV K F' v d -> Q v H'
 | .ex e => ∀ a C F' H', Ext F H F' H' -> j6 K mg F' e a C -> E (.ref C) (some a) H'
def Beh (P : Program) (w : World) (K : Frag) (mg : Str -> Option Value) (base : Heap) (T : Hp) (f : Addr) (F1 : Hp) (k n : Nat) (G : List PyData -> R PyData) : Prop :=
 ∃ fd ps, ps.length = n /\ iE K fd ps [] /\ FnOk P w K mg base (CXe P w) k f fd ps (spG K mg T F1 n G) /\ (PySem.W.keepIn K (.ref f) = true \/ ∃ oc od fd' sl, F1 f = some (FnO f ⟨oc, od, .func fd', sl⟩))
def gOf (P : Program) (w : World) (K : Frag) (mg : Str -> Option Value) (base : Heap) (T : Hp) : Gb := ⟨Beh P w K mg base T, T, w⟩
def spF (g : Gb) (K : Frag) (mg : Str -> Option Value) (n : Nat) (G : List A -> R A) : Sp := fun vs H Q E => ∃ F as, aK g.T F /\ aK F H /\ AFs g K mg F as vs /\ as.length = n /\ match G as with
 | .bad => False
 | .ok a => ∀ v F' H', Ext F H F' H' -> AF g K mg F' a v -> Q v H'
 | .ex e => ∀ a C F' H', Ext F H F' H' -> j6 K mg F' e a C -> E (.ref C) (some a) H'
def a6 (P : Program) (w : World) (K : Frag) (mg : Str -> Option Value) (base : Heap) (T : Hp) (k : Nat) (x : Str) (ps : List Str) (G : List A -> R A) : Prop := Calls P w K mg base (CXe P w) k x ps (spF (gOf P w K mg base T) K mg ps.length G)
def aV (n : Nat) (G : List A -> R A) (f : Sg -> R (List A)) : Sg -> R A := fun ρ => (f ρ).bind fun as => if as.length = n then G as else .bad
theorem cC {X : Cx} {c : Ct} {E : XK} {e : Expr} {n : Nat} {G : List A -> R A} {g : Gb} {K : Frag} {mg : Str -> Option Value} {f : Sg -> R (List A)} (hG : g = c.g) (hK : K = c.K) (hM : mg = c.mg) (h : PE X e (p8 (spF g K mg n G) [] E (tAv c E f))) : PV X c E e (aV n G f) := PE.imp h fun σ H Q ⟨ρ, F, ab, k⟩ => by
 subst hG hK hM
 refine ⟨ρ, F, ab, (Rk.bind k).imp fun as _ q vs F1 H1 s1 r1 => ?_⟩
 by_cases hn : as.length = n
 ·rw [if_pos hn] at q
  refine ⟨F1, as, fun a o z => s1.ff a o (ab.f0 a o (ab.t0 a o z)), s1.fh, by rw [List.append_nil]; exact r1, hn, ?_⟩
  cases hg : G as with
  | bad => rw [hg] at q; exact q
  | ok a => rw [hg] at q; exact fun v F' H' s r => Rk.ok q v F' H' (s1.trans s) r
  | ex e => rw [hg] at q; exact fun a C F' H' s r => q a C F' H' ((ab.all.trans s1).trans s) r
 ·rw [if_neg hn] at q; exact q.elim
def fnF (n : Nat) (fb : Sg -> R Fw) : List A -> R A := fun as => (fb (as.map some ++ List.replicate (n - as.length) none)).bind fun w => match w with
 | .rt a => .ok a
 | .nx _ => .ok (.d .none)
 | _ => .bad
theorem AFs.get {g : Gb} {K : Frag} {mg : Str -> Option Value} {F : Hp} : ∀ {as : List A} {vs : List V} {i : Nat} {a : A}, AFs g K mg F as vs -> as[i]? = some a -> ∃ v, vs[i]? = some v /\ AF g K mg F a v
 | [], [], _, _, _, h => by simp at h
 | a :: as, v :: vs, 0, _, h, e => by simp at e; subst e; exact ⟨v, rfl, h.1⟩
 | a :: as, v :: vs, i + 1, _, h, e => by
  obtain ⟨w, h1, h2⟩ := AFs.get (i := i) h.2 (by simpa using e)
  exact ⟨w, by simpa using h1, h2⟩
theorem pI {α : Type} {as : List α} {n i : Nat} {a : α} (h : (as.map some ++ List.replicate n none)[i]? = some (some a)) : as[i]? = some a := by
 by_cases hi : i < as.length
 ·rw [List.getElem?_append_left (by rw [List.length_map]; exact hi), List.getElem?_map] at h
  cases e : as[i]? with
  | none => rw [e] at h; cases h
  | some b => rw [e] at h; cases h; rfl
 ·rw [List.getElem?_append_right (by rw [List.length_map]; omega), List.getElem?_replicate] at h
  split at h
  · cases h
  · cases h
theorem xB {g : Gb} {cells : List (Str × Addr)} {cls : Str -> Option ClSt} {K : Frag} {mg : Str -> Option Value} {w : World} {F H : Hp} {as : List A} {vs : List V} {n : Nat} (s0 : aK g.T F) (s : aK F H) (h : AFs g K mg F as vs) : Ab ⟨K, mg, w, F, H, g, cells, cls⟩ (as.map some ++ List.replicate (n - as.length) none) (vs.map some ++ List.replicate (n - vs.length) none) F H where
 len := by rw [List.length_append, List.length_append, List.length_map, List.length_map, List.length_replicate, List.length_replicate, h.len]
 fh := s
 slot := fun i a e => by
  obtain ⟨v, h1, h2⟩ := h.get (pI e)
  refine ⟨v, ?_, AO.of h2⟩
  have hi : i < vs.length := (List.getElem?_eq_some_iff.mp h1).1
  rw [List.getElem?_append_left (by rw [List.length_map]; exact hi), List.getElem?_map, h1]; rfl
 apart := fun i j a b _ e1 _ o _ => by
  obtain ⟨v, h1, h2⟩ := h.get (pI e1)
  rw [AF.notOwn h2] at o
  cases o
 f0 := bY F
 h0 := bY H
 n0 := fun a e n => absurd e n
 t0 := s0
theorem qI {g : Gb} {cells : List (Str × Addr)} {cls : Str -> Option ClSt} {K : Frag} {mg : Str -> Option Value} {w : World} {n : Nat} {fb : Sg -> R Fw} {vs : List V} {as : List A} {F H : Hp} {Q : VK} {E : XK} (h0 : aK g.T F) (h1 : aK F H) (h2 : AFs g K mg F as vs) (h4 : match fnF n fb as with
 | .bad => False
 | .ok a => ∀ v F' H', Ext F H F' H' -> AF g K mg F' a v -> Q v H'
 | .ex e => ∀ a C F' H', Ext F H F' H' -> j6 K mg F' e a C -> E (.ref C) (some a) H') : tSf ⟨K, mg, w, F, H, g, cells, cls⟩ E fb { nx := fun _ H' => Q .non H', rt := Q } (vs.map some ++ List.replicate (n - vs.length) none) H := by
 refine ⟨_, F, xB h0 h1 h2, ?_⟩
 unfold fnF at h4
 cases e : fb (as.map some ++ List.replicate (n - as.length) none) with
 | bad => rw [e] at h4; exact h4
 | ex x => rw [e] at h4; exact h4
 | ok w =>
  rw [e] at h4
  cases w with
  | nx ρ' => exact fun σ' F' H' s ab => h4 .non F' H' ab.all .non
  | rt a => exact h4
  | bk ρ' => exact h4.elim
  | ct ρ' => exact h4.elim
section
variable {P : Program} {w : World} {K : Frag} {mg : Str -> Option Value} {base : Heap} {T : Hp} {x : Str} {st : Stmt} {N ps : List Str} {k : Nat}
theorem c8 {fb : Sg -> R Fw} (D : DefAt K mg x st ps) (S : FnScope N ps (aL st))
  (hbody : ∀ (f : Addr) (cdv : Value) (A : Around) (outer : List Env) (s : Shared) (H F : Hp) (E : XK), Room k (A.deeper (envOfC x (aL st) s.heap.objs.size f cdv)) ->
   kW ((j2 (CXe P w) P w K mg base N x (aL st) f cdv A outer s H E).fly E) ⟨K, mg, w, F, H, gOf P w K mg base T, (envOfC x (aL st) s.heap.objs.size f cdv).cells, fun _ => none⟩ E (c7 st) fb) : a6 P w K mg base T (k + 1) x ps (fnF N.length fb) := by
 refine D.okX S (fun vs H Q E h => ?_) (fun f cdv A outer s H vs Q E hr h => ?_)
 ·obtain ⟨F, as, _, _, h2, h3, _⟩ := h
  rw [h2.len, h3]
 ·obtain ⟨F, as, h0, h1, h2, h3, h4⟩ := h
  exact ⟨_, hbody f cdv A outer s H F E hr, qI h0 h1 h2 h4⟩
end
def aJX (cn : Str) (fs : List Str) (f : Sg -> R (List PyData)) : Sg -> R Fw := fun ρ => (f ρ).bind fun xs => if xs.length = fs.length then .ex ⟨cn, fs.zip xs⟩ else .bad
end Fl
namespace Fl
open PySem L2 PyProof.Rows
def tPf (c : Ct) (E : XK) (f : Sg -> R (Option Int)) : TO := fun σ H Q => ∃ ρ F, Ab c ρ σ F H /\ Rk c E F H (f ρ) fun o => ∀ F' H', Ext F H F' H' -> Q o H'
def oNo : Sg -> R (Option Int) := fun _ => .ok none
def oSo (f : Sg -> R PyData) : Sg -> R (Option Int) := fun ρ => (f ρ).bind fun x => match x with
 | .int i => .ok (some i)
 | _ => .bad
def pJ {α : Type} (xs : List α) (lo hi : Option Int) : List α := (xs.drop (HT.sIx xs.length 0 lo)).take (HT.sIx xs.length xs.length hi - HT.sIx xs.length 0 lo)
def dSl : PyData -> Option Int -> Option Int -> R PyData
 | .list xs, lo, hi => .ok (.list (pJ xs lo hi))
 | .tuple xs, lo, hi => if ¬ (HT.sIx xs.length 0 lo = 0 /\ HT.sIx xs.length xs.length hi = xs.length) then .ok (.tuple (pJ xs lo hi)) else .bad
 | .str z, lo, hi => if z.length <= 16777216 then .ok (.str (Txt.slice z lo hi)) else .bad
 | _, _, _ => .bad
def eSl {α : Type} (g : PyData -> Option Int -> Option Int -> R α) (f : Sg -> R PyData) (lo hi : Sg -> R (Option Int)) : Sg -> R α := fun ρ => (f ρ).bind fun x => (lo ρ).bind fun l => (hi ρ).bind fun h => g x l h
theorem xC {K : Frag} {F : Hp} {vs : List V} {xs : List PyData} (h : DatVs K F vs xs) (lo hi : Option Int) : DatVs K F (o5 vs lo hi) (pJ xs lo hi) := by
 unfold o5 pJ
 rw [h.length]
 exact (h.drop _).take _
theorem PO.imp {X : Cx} {e : Option Expr} {t t' : TO} (h : PO X e t) (i : ∀ σ H Q, t' σ H Q -> t σ H Q) : PO X e t' := fun pins s σ H Q I q => h pins s σ H Q I (i σ H Q q)
section
variable {X : Cx} {c : Ct} {E : XK} {e a b : Expr} {pos p2 : Pos} {lo hi : Option Expr}
theorem aBB : PO X none (tPf c E oNo) := PO.imp aGI fun σ H Q ⟨ρ, F, ab, k⟩ => Rk.ok k F H (Ext.refl ab.fh)
theorem aBC {f : Sg -> R PyData} (h : PR X c E e f) : PO X (some e) (tPf c E (oSo f)) := PO.imp (aGJ h) fun σ H Q ⟨ρ, F, ab, k⟩ => ⟨ρ, F, ab, (Rk.bind k).imp fun x _ q v F' H' s r => by
 cases x with
 | int i => exact ⟨i, bA.int_of r, Rk.ok q F' H' s⟩
 | _ => exact q.elim⟩
def aJY (c : Ct) {α : Type} (Rb : VR α) (g : PyData -> Option Int -> Option Int -> R α) : V -> Option Int -> Option Int -> Hp -> VK -> Prop := fun v lo hi H Q => ∃ F x d, aK F H /\ bA c.K F H v x /\ g x lo hi = .ok d /\ ∀ w F' H', Ext F H F' H' -> Rb d w H F' H' -> Q w H'
theorem aL9 (hK : X.K = c.K) : SlR X (aJY c (cW c) dSl) := by
 intro pins s σ H v x vl vu lo hi sl Q I rx hs pl pu h
 obtain ⟨F, d, w, sf, ra, eg, q⟩ := h
 unfold dSl at eg
 split at eg
 ·cases eg
  obtain ⟨p, vs, rfl, h1, h2⟩ := bA.lst_of sf ra
  rw [<- hK] at h1
  exact aGN pins s σ H _ x vl vu lo hi sl Q I rx hs pl pu ⟨p, vs, rfl, h1, fun l hl => q _ _ _ (Ext.new sf hl) (.lst (SqL.of a7) ((xC h2 lo hi).same (aK.upd (cB sf hl))))⟩
 ·rename_i xs _ _
  split at eg
  ·rename_i hw
   cases eg
   obtain ⟨p, vs, rfl, _, h1, h2⟩ := bA.tup_of sf ra
   rw [<- hK] at h1
   exact aJA pins s σ H _ x vl vu lo hi sl Q I rx hs pl pu ⟨p, vs, rfl, h1, by rw [h2.length]; exact hw, fun l hl => q _ _ _ (Ext.new sf hl) (.tup (SqT.of a7) ((xC h2 lo hi).same (aK.upd (cB sf hl))))⟩
  ·cases eg
 ·split at eg
  ·rename_i hz
   cases eg
   obtain rfl := bA.str_of ra
   exact aJG pins s σ H _ x vl vu lo hi sl Q I rx hs pl pu ⟨_, rfl, by rw [eB]; exact hz, q _ F H (Ext.refl sf) (.str _)⟩
  ·cases eg
 ·cases eg
theorem aG4 {α : Type} {Rb : VR α} {g : PyData -> Option Int -> Option Int -> R α} (hp : ∀ x l h e, g x l h ≠ .ex e) (kb : aA5 Rb) {f : Sg -> R PyData} {fl fh : Sg -> R (Option Int)} {σ : L2.St} {H : Hp} {Q : VK} (h : tV Rb c E (eSl g f fl fh) σ H Q) :
  tSl (aJY c Rb g) (tV (bO c) c E f) (tPf c E fl) (tPf c E fh) σ H Q := by
 obtain ⟨ρ, F, ab, k⟩ := h
 refine ⟨ρ, F, ab, (Rk.bind k).imp fun x _ q v F1 H1 s1 r1 => ⟨ρ, F1, ab.ext s1, ((Rk.bind q).ext s1).imp fun l _ q F2 H2 s2 => ⟨ρ, F2, ab.ext (s1.trans s2), ((Rk.bind q).ext (s1.trans s2)).imp fun hh _ q F3 H3 s3 => ?_⟩⟩⟩
 cases eg : g x l hh with
 | bad => rw [eg] at q; exact q.elim
 | ex e => exact absurd eg (hp x l hh e)
 | ok d =>
  rw [eg] at q
  have s13 := (s1.trans s2).trans s3
  exact ⟨F3, x, d, s3.fh, bA.ext (s2.trans s3) r1, eg, fun w F' H' s r => Rk.ok q w F' H' (s13.trans s) (kb _ _ _ _ _ _ s13.hh r)⟩
theorem aEL : ∀ x l h e, dSl x l h ≠ .ex e := by intro x l h e q; unfold dSl at q; split at q <;> (try split at q) <;> cases q
theorem rX {f : Sg -> R PyData} {fl fh : Sg -> R (Option Int)} (hK : X.K = c.K) (he : PR X c E e f) (hl : PO X lo (tPf c E fl)) (hh : PO X hi (tPf c E fh)) : PD X c E (.Subscript e (.Slice lo hi none p2) pos) (eSl dSl f fl fh) :=
 PE.imp (aDY (aL9 hK) he hl hh) fun σ H Q h => aG4 aEL (lE c) h
def tyN : PyData -> String
 | .none => "NoneType"
 | .bool _ => "bool"
 | .int _ => "int"
 | .str _ => "str"
 | .list _ => "list"
 | .tuple _ => "tuple"
 | .dict _ => "dict"
def gT (t T : String) : Bool := t == T || (T == "int" && t == "bool")
def dN (T : String) (x : PyData) : R PyData := match x with
 | .dict _ => .bad
 | x => .ok (.bool (gT (tyN x) T))
structure Kit (K : Frag) (T : String) : Prop where
 non : PySem.W.kitOne K (.type "NoneType") (.type T) = some (gT "NoneType" T)
 bl : PySem.W.kitOne K (.type "bool") (.type T) = some (gT "bool" T)
 int : PySem.W.kitOne K (.type "int") (.type T) = some (gT "int" T)
 str : PySem.W.kitOne K (.type "str") (.type T) = some (gT "str" T)
 lst : PySem.W.kitOne K (.type "list") (.type T) = some (gT "list" T)
 tup : PySem.W.kitOne K (.type "tuple") (.type T) = some (gT "tuple" T)
theorem aG5 (K : Frag) : Kit K "int" := ⟨rfl, rfl, rfl, rfl, rfl, rfl⟩
theorem aEM (K : Frag) : Kit K "bool" := ⟨rfl, rfl, rfl, rfl, rfl, rfl⟩
theorem qJ (K : Frag) : Kit K "str" := ⟨rfl, rfl, rfl, rfl, rfl, rfl⟩
theorem vK (K : Frag) : Kit K "tuple" := ⟨rfl, rfl, rfl, rfl, rfl, rfl⟩
theorem aEN {X : Cx} : kH X (.builtin "isinstance") (fun xs H Q => ∃ a ys c cv b, xs = [.ref a, c] /\ SqL X.K H a ys /\ rN c = some cv /\ PySem.W.kitOne X.K (.type "list") cv = some b /\ Q (.bl b) H) := by
 intro pins s σ H xs us Q I r h
 obtain ⟨a, ys, c, cv, b, rfl, ha, hc, e, q⟩ := h
 obtain ⟨u, v, rfl, ru, rv⟩ := v8 r
 obtain rfl := uA hc rv
 cases (show u = Value.ref a from ru)
 obtain ⟨its, _, pl, _⟩ := I.list ha
 obtain ⟨o, h1, h2, _⟩ := pl.isList
 exact PySem.W.kia_one PySem.W.kitx_list I.kIn ⟨o, h1, h2⟩ e (fun z => nomatch z) fun tk => ⟨.bl b, H, I.tok _, rfl, q⟩
def aEO (c : Ct) (T : String) : List V -> Hp -> VK -> Prop := fun xs H Q => ∃ F x v d, xs = [v, .ty T] /\ aK F H /\ bA c.K F H v x /\ dN T x = .ok d /\ ∀ w F' H', Ext F H F' H' -> DatV c.K F' w d -> Q w H'
theorem hU (hK : X.K = c.K) {T : String} (k : Kit X.K T) : kH X (.builtin "isinstance") (aEO c T) := by
 intro pins s σ H xs us Q I r h
 obtain ⟨F, x, v, d, rfl, sf, ra, eg, q⟩ := h
 cases x with
 | dict _ => cases eg
 | none =>
  cases eg
  obtain rfl := bA.non_of ra
  exact fP pins s σ H _ us Q I r ⟨_, _, _, _, _, rfl, .pl .non, rfl, k.non, q _ F H (Ext.refl sf) (.bl _)⟩
 | bool b =>
  cases eg
  obtain rfl := bA.bl_of ra
  exact fP pins s σ H _ us Q I r ⟨_, _, _, _, _, rfl, .pl (.bl b), rfl, k.bl, q _ F H (Ext.refl sf) (.bl _)⟩
 | int b =>
  cases eg
  obtain rfl := bA.int_of ra
  exact fP pins s σ H _ us Q I r ⟨_, _, _, _, _, rfl, .pl (.int b), rfl, k.int, q _ F H (Ext.refl sf) (.bl _)⟩
 | str b =>
  cases eg
  obtain rfl := bA.str_of ra
  exact fP pins s σ H _ us Q I r ⟨_, _, _, _, _, rfl, .pl (.str b), rfl, k.str, q _ F H (Ext.refl sf) (.bl _)⟩
 | tuple xs =>
  cases eg
  obtain ⟨p, vs, rfl, _, h1, h2⟩ := bA.tup_of sf ra
  rw [<- hK] at h1
  exact wO pins s σ H _ us Q I r ⟨p, vs, _, _, _, rfl, h1, rfl, k.tup, q _ F H (Ext.refl sf) (.bl _)⟩
 | list xs =>
  cases eg
  obtain ⟨p, vs, rfl, h1, h2⟩ := bA.lst_of sf ra
  rw [<- hK] at h1
  exact aEN pins s σ H _ us Q I r ⟨p, vs, _, _, _, rfl, h1, rfl, k.lst, q _ F H (Ext.refl sf) (.bl _)⟩
theorem kS {T : String} {f : Sg -> R PyData} (h : PE X e (tCB (aEO c T) (gW (tV (bO c) c E f) (gW (tC (.ty T)) lR)))) : PD X c E e (e1 (dN T) f) := PE.imp h fun σ H Q ⟨ρ, F, ab, k⟩ => by
 refine ⟨ρ, F, ab, (Rk.bind k).imp fun x _ q v F1 H1 s1 r1 => ?_⟩
 show aEO c T [v, .ty T] H1 Q
 cases x with
 | dict _ => exact q.elim
 | none => exact ⟨F1, _, v, _, rfl, s1.fh, r1, rfl, fun w F' H' s r => Rk.ok q w F' H' (s1.trans s) r⟩
 | bool _ => exact ⟨F1, _, v, _, rfl, s1.fh, r1, rfl, fun w F' H' s r => Rk.ok q w F' H' (s1.trans s) r⟩
 | int _ => exact ⟨F1, _, v, _, rfl, s1.fh, r1, rfl, fun w F' H' s r => Rk.ok q w F' H' (s1.trans s) r⟩
 | str _ => exact ⟨F1, _, v, _, rfl, s1.fh, r1, rfl, fun w F' H' s r => Rk.ok q w F' H' (s1.trans s) r⟩
 | list _ => exact ⟨F1, _, v, _, rfl, s1.fh, r1, rfl, fun w F' H' s r => Rk.ok q w F' H' (s1.trans s) r⟩
 | tuple _ => exact ⟨F1, _, v, _, rfl, s1.fh, r1, rfl, fun w F' H' s r => Rk.ok q w F' H' (s1.trans s) r⟩
def aNM : List PyData -> Option (List Str)
 | [] => some []
 | .str s :: t => (aNM t).map (s :: ·)
 | _ => none
def pK : PyData -> PyData -> R PyData
 | .str z, .str y => match Builtin.Str.occurrences z y 0 z.length 1 with
  | i :: _ => .ok (.int i)
  | [] => .bad
 | _, _ => .bad
theorem aEP {f g : Sg -> R PyData} (h : PE X e (tBM X.K "str" aCD (tV (bO c) c E f) (gW (tV (bO c) c E g) lR))) (hs : ∀ ρ x, f ρ = .ok x -> ∃ z, x = .str z) : PD X c E e (e2 pK f g) := PE.imp h fun σ H Q ⟨ρ, F, ab, k⟩ => by
 refine ⟨ρ, F, ab, (Rk.bind k).imp fun x ex q v F1 H1 s1 r1 => ?_⟩
 obtain ⟨z, rfl⟩ := hs ρ x ex
 obtain rfl := bA.str_of r1
 refine ⟨rfl, ρ, F1, ab.ext s1, ((Rk.bind q).ext s1).imp fun y _ q u F2 H2 s2 r2 => ?_⟩
 cases y with
 | str y =>
  have q' : Rk c E F H (match Builtin.Str.occurrences z y 0 z.length 1 with
   | i :: _ => R.ok (PyData.int i)
   | [] => .bad) (fun d => ∀ v F' H', Ext F H F' H' -> cW c d v H F' H' -> Q v H') := q
  split at q'
  ·rename_i i rest ho
   obtain rfl := bA.str_of r2
   exact ⟨z, y, i, rest, rfl, rfl, ho, Rk.ok q' _ F2 H2 (s1.trans s2) (.int _)⟩
  ·exact q'.elim
 | _ => exact q.elim
end
end Fl
namespace Fl
open PySem L2 PyProof.Rows
def iP (kvs : List (PyData × PyData)) (k : PyData) : Option PyData := (kvs.find? fun p => decide (p.1 = k)).map (·.2)
def d9 (kvs : List (PyData × PyData)) (k : PyData) : Bool := (iP kvs k).isSome
def putM (kvs : List (PyData × PyData)) (k v : PyData) : List (PyData × PyData) := if d9 kvs k = true then kvs.map (fun p => if p.1 = k then (p.1, v) else p) else kvs ++ [(k, v)]
theorem zK {K : Frag} {F : Hp} {k : PyData} : ∀ {es : List Ent} {kvs : List (PyData × PyData)}, es.map (·.1) = kvs.map (·.1) -> DatVs K F (es.map (·.2.2)) (kvs.map (·.2)) ->
  (atE es k = none /\ iP kvs k = none) \/ ∃ v d, atE es k = some v /\ iP kvs k = some d /\ DatV K F v d
 | [], [], _, _ => .inl ⟨rfl, rfl⟩
 | [], _ :: _, h, _ => by cases h
 | _ :: _, [], h, _ => by cases h
 | e :: es, p :: kvs, h, r => by
  rw [List.map_cons, List.map_cons] at h r
  injection h with h1 h2
  obtain ⟨v, t, e1, r1, r2⟩ := r.cons_of
  rw [List.cons.injEq] at e1
  obtain ⟨rfl, rfl⟩ := e1
  have ih := zK (k := k) h2 r2
  unfold atE iP at ih ⊢
  rw [List.find?_cons, List.find?_cons, h1]
  by_cases q : p.1 = k
  · rw [decide_eq_true q]; exact .inr ⟨_, _, rfl, rfl, r1⟩
  · rw [decide_eq_false q]; exact ih
theorem MapRel.get {K : Frag} {F : Hp} {es : List Ent} {kvs : List (PyData × PyData)} (m : MapRel K F es kvs) (k : PyData) : (atE es k = none /\ iP kvs k = none) \/ ∃ v d, atE es k = some v /\ iP kvs k = some d /\ DatV K F v d := zK m.k1 m.vs
theorem MapRel.has {K : Frag} {F : Hp} {es : List Ent} {kvs : List (PyData × PyData)} (m : MapRel K F es kvs) (k : PyData) : (atE es k).isSome = d9 kvs k := by
 unfold d9
 rcases m.get k with ⟨a, b⟩ | ⟨v, d, a, b, _⟩ <;> rw [a, b] <;> rfl
theorem rY {kvs : List (PyData × PyData)} {k : PyData} : d9 kvs k = true ↔ k ∈ kvs.map (·.1) := by
 unfold d9 iP
 rw [Option.isSome_map]
 induction kvs with
 | nil => simp
 | cons p t ih =>
  rw [List.find?_cons]
  by_cases q : p.1 = k
  ·rw [decide_eq_true q]; simp [q]
  ·rw [decide_eq_false q, ih, List.map_cons]
   exact ⟨fun z => List.mem_cons_of_mem _ z, fun z => (List.mem_cons.mp z).resolve_left (fun w => q w.symm)⟩
theorem aC1 {kvs : List (PyData × PyData)} {k v : PyData} : (putM kvs k v).map (·.1) = if d9 kvs k = true then kvs.map (·.1) else kvs.map (·.1) ++ [k] := by
 unfold putM
 cases h : d9 kvs k with
 | true =>
  rw [if_pos rfl, if_pos rfl, List.map_map]
  refine List.map_congr_left fun p _ => ?_
  show (if p.1 = k then (p.1, v) else p).1 = p.1
  split <;> rfl
 | false => rw [if_neg (by decide), if_neg (by decide), List.map_append]; rfl
theorem zL {K : Frag} {F : Hp} {k d : PyData} {v : V} (r : DatV K F v d) : ∀ {es : List Ent} {kvs : List (PyData × PyData)}, es.map (·.1) = kvs.map (·.1) -> DatVs K F (es.map (·.2.1)) (kvs.map (·.1)) -> DatVs K F (es.map (·.2.2)) (kvs.map (·.2)) ->
  (es.map fun e => if e.1 = k then (e.1, e.2.1, v) else e).map (·.1) = (kvs.map fun p => if p.1 = k then (p.1, d) else p).map (·.1) /\
  DatVs K F ((es.map fun e => if e.1 = k then (e.1, e.2.1, v) else e).map (·.2.1)) ((kvs.map fun p => if p.1 = k then (p.1, d) else p).map (·.1)) /\
  DatVs K F ((es.map fun e => if e.1 = k then (e.1, e.2.1, v) else e).map (·.2.2)) ((kvs.map fun p => if p.1 = k then (p.1, d) else p).map (·.2))
 | [], [], _, _, _ => ⟨rfl, .nil, .nil⟩
 | [], _ :: _, h, _, _ => by cases h
 | _ :: _, [], h, _, _ => by cases h
 | e :: es, p :: kvs, h, rk, rv => by
  rw [List.map_cons, List.map_cons] at h rk rv
  injection h with h1 h2
  obtain ⟨_, _, e1, r1, r2⟩ := rk.cons_of
  rw [List.cons.injEq] at e1
  obtain ⟨rfl, rfl⟩ := e1
  obtain ⟨_, _, e1, q1, q2⟩ := rv.cons_of
  rw [List.cons.injEq] at e1
  obtain ⟨rfl, rfl⟩ := e1
  obtain ⟨a1, a2, a3⟩ := zL r h2 r2 q2
  simp only [List.map_cons]
  rw [h1, a1]
  by_cases q : p.1 = k
  · rw [if_pos q, if_pos q]; exact ⟨rfl, .cons r1 a2, .cons r a3⟩
  · rw [if_neg q, if_neg q]; exact ⟨by rw [h1], .cons r1 a2, .cons q1 a3⟩
theorem MapRel.put {K : Frag} {F : Hp} {es : List Ent} {kvs : List (PyData × PyData)} {k d : PyData} {kv v : V} (m : MapRel K F es kvs) (rk : DatV K F kv k) (r : DatV K F v d) : MapRel K F (mY es k kv v) (putM kvs k d) := by
 have hh := m.has k
 have nd : ((putM kvs k d).map (·.1)).Nodup := by
  rw [aC1]
  cases h : d9 kvs k with
  | true => rw [if_pos rfl]; exact m.nd
  | false =>
   rw [if_neg (by decide), List.nodup_append]
   refine ⟨m.nd, by simp, fun a ha b hb z => ?_⟩
   rw [List.mem_singleton] at hb
   subst hb z
   rw [rY.mpr ha] at h
   cases h
 unfold mY
 rw [hh]
 unfold putM at nd ⊢
 cases h : d9 kvs k with
 | true =>
  rw [h, if_pos rfl] at nd
  rw [if_pos rfl, if_pos rfl]
  obtain ⟨a1, a2, a3⟩ := zL (k := k) r m.k1 m.k2 m.vs
  exact ⟨a1, a2, a3, nd⟩
 | false =>
  rw [h, if_neg (by decide)] at nd
  rw [if_neg (by decide), if_neg (by decide)]
  refine ⟨by rw [List.map_append, List.map_append, m.k1]; rfl, ?_, ?_, nd⟩
  ·rw [List.map_append, List.map_append]; exact m.k2.append (.cons rk .nil)
  ·rw [List.map_append, List.map_append]; exact m.vs.append (.cons r .nil)
theorem pL {K : Frag} {F : Hp} : ∀ {es : List Ent} {kvs : List (PyData × PyData)}, es.map (·.1) = kvs.map (·.1) -> DatVs K F (es.map (·.2.1)) (kvs.map (·.1)) -> ∀ e ∈ es, DatV K F e.2.1 e.1
 | [], _, _, _, e, he => by cases he
 | _ :: _, [], h, _, _, _ => by cases h
 | e0 :: es, p :: kvs, h, rk, e, he => by
  rw [List.map_cons, List.map_cons] at h rk
  injection h with h1 h2
  obtain ⟨_, _, e1, r1, r2⟩ := rk.cons_of
  rw [List.cons.injEq] at e1
  obtain ⟨rfl, rfl⟩ := e1
  rcases List.mem_cons.mp he with z | z
  · subst z; rw [h1]; exact r1
  · exact pL h2 r2 e z
section
variable {X : Cx} {c : Ct} {E : XK} {e a b : Expr} {st : Stmt} {pos : Pos}
theorem aBD {ρ : Sg} {σ : L2.St} {F H : Hp} {i : Nat} {kvs : List (PyData × PyData)} {k : PyData} {kv : V} (hK : X.K = c.K) (hW : X.w = c.w) (ab : Ab c ρ σ F H) (hi : ρ[i]? = some (some (.m kvs))) (hk : DatV c.K F kv k) (hs : cQ k (kvs.map (·.1)) = true) :
  ∃ p es, σ[i]? = some (some (.ref p)) /\ DicAt X H p es k kv /\ MapRel c.K F es kvs := by
 obtain ⟨v, hp, p, es, rfl, h2, h3, h4, h5⟩ := ab.slot i _ hi
 refine ⟨p, es, hp, ⟨by rw [hW]; exact h2, fun e he => by rw [hK]; exact (pL h5.k1 h5.k2 e he).same ab.fh, by rw [h5.k1]; exact h5.nd, by rw [hK]; exact hk.same ab.fh, by rw [h5.k1]; exact hs⟩, h5⟩
def aF0 (w : World) : TE := fun _ H Q => ∀ p, H p = none -> Q (.ref p) (upd H p (d7 w p []))
theorem qK : PE X (.Dict [] [] pos) (aF0 X.w) := fun pins s σ H Q I h =>
 wpAny_Dict_empty ⟨.ref s.heap.objs.size, _, I.laid (a := s.heap.objs.size) (o := d7 X.w s.heap.objs.size []) (t' := s.toks) (fun _ _ q => Heap.get?_push_of_some _ q) (Nat.le_refl _)
  (lJ (beq_eq_false_iff_ne.mpr (Ne.symm (Nat.ne_of_lt I.big))) ⟨_, #[], 0, Heap.get?_push_size _ rfl, ⟨rfl, rfl, rfl⟩, rfl, .nil⟩), rfl, h _ (I.hok.fresh (Nat.le_refl _))⟩
def iZ (i : Nat) : Sg -> R Fw := fun ρ => .ok (.nx (ρ.set i (some (.m []))))
theorem qL {i : Nat} {w : World} (hW : w = c.w) (h : PS X st (kU (aF0 w) (jO i))) : PSf X c E st (iZ i) := PS.imp h fun D σ H ⟨ρ, F, ab, k⟩ => fun p hp => by
 subst hW
 exact Rk.ok k _ F _ (bY F) (ab.setM (Ext.own ab.fh hp) hp a7 (cB ab.fh hp) ⟨rfl, .nil, .nil, List.nodup_nil⟩)
def gU (neg : Bool) (i : Nat) (f : Sg -> R PyData) : Sg -> R PyData := fun ρ => (f ρ).bind fun k => match ρ[i]? with
 | some (some (.m kvs)) => if cQ k (kvs.map (·.1)) = true then .ok (.bool (if neg = true then !d9 kvs k else d9 kvs k)) else .bad
 | _ => .bad
def aBE (X : Cx) (neg : Bool) : R2 := fun y x H Q => ∃ p es k, x = .ref p /\ DicAt X H p es k y /\ Q (.bl (if neg = true then !(atE es k).isSome else (atE es k).isSome)) H
theorem uK (hu : X.A.units + 64 < cLine) : OpR X (compareOp .In) (aBE X false) := by
 intro pins s σ H y x v u Q I ry rx h
 obtain ⟨p, es, k, rfl, D, q⟩ := h
 cases (show u = Value.ref p from rx)
 exact aJQ hu D I ry fun s' I' => ⟨.bl _, H, I', rfl, q⟩
theorem rZ (hu : X.A.units + 64 < cLine) : OpR X (compareOp .NotIn) (aBE X true) := by
 intro pins s σ H y x v u Q I ry rx h
 obtain ⟨p, es, k, rfl, D, q⟩ := h
 cases (show u = Value.ref p from rx)
 exact aG0 hu D I ry fun s' I' => ⟨.bl _, H, I', rfl, q⟩
theorem aEQ {i : Nat} {neg : Bool} {f : Sg -> R PyData} (hK : X.K = c.K) (hW : X.w = c.w) {σ : L2.St} {H : Hp} {Q : VK} (h : tV (cW c) c E (gU neg i f) σ H Q) : tOp (aBE X neg) (tV (cW c) c E f) (jN i) σ H Q := by
 obtain ⟨ρ, F, ab, k⟩ := h
 refine ⟨ρ, F, ab, (Rk.bind k).imp fun d _ q v F1 H1 s1 r1 => ?_⟩
 split at q
 ·rename_i kvs hi
  split at q
  ·rename_i hs
   obtain ⟨p, es, hp, D, m⟩ := aBD hK hW (ab.ext s1) hi r1 hs
   refine ⟨_, hp, p, es, d, rfl, D, ?_⟩
   rw [m.has]
   exact Rk.ok q _ F1 H1 s1 (.bl _)
  ·exact q.elim
 ·exact q.elim
theorem nC {i : Nat} {neg : Bool} {f : Sg -> R PyData} (hK : X.K = c.K) (hW : X.w = c.w) (h : PT X e (aFO (tOp (aBE X neg) (tV (cW c) c E f) (jN i)))) : PTf X c E e (e1 asB (gU neg i f)) := PT.imp h fun σ H Q q => aEQ hK hW (uF q)
def mK (i : Nat) (f : Sg -> R PyData) : Sg -> R PyData := fun ρ => match ρ[i]? with
 | some (some (.m kvs)) => (f ρ).bind fun k => if cQ k (kvs.map (·.1)) = true then match iP kvs k with
  | some v => .ok v
  | none => .bad else .bad
 | _ => .bad
def aF1 (X : Cx) (td ty : TE) : TE := fun σ H Q => td σ H fun x H1 => ty σ H1 fun y H2 => ∃ p es k v, x = .ref p /\ DicAt X H2 p es k y /\ atE es k = some v /\ Q v H2
theorem zM {o i : Expr} {td ty : TE} (hu : X.A.units + 64 < cLine) (ho : PE X o td) (hi : PE X i ty) (hs : aJJ i) : PE X (.Subscript o i pos) (aF1 X td ty) := by
 intro pins s σ H Q I h
 refine aGS PySem.F.slot_dict_getitem.lookup hs (thn (ho pins s σ H _ I h) fun u s1 ⟨x, H1, I1, rx, q1⟩ => thn (hi pins s1 σ H1 _ I1 q1) fun iv s2 ⟨y, H2, I2, ry, p, es, k, v, ex, D, hv, q2⟩ => ?_)
 subst ex
 obtain rfl : u = Value.ref p := rx
 obtain ⟨⟨_, o', ar, ep, h1, h2, _⟩, _, _⟩ := (show bZ X.prog X.w H2 s2.heap p (d7 X.w p es) from I2.hok p _ D.o)
 exact ⟨⟨o', h1, h2.1⟩, aG1 hu D I2 ry hv fun w' s3 I3 rw' => ⟨v, H2, I3, rw', q2⟩⟩
theorem zN {i : Nat} {f : Sg -> R PyData} (hK : X.K = c.K) (hW : X.w = c.w) (h : PE X e (aF1 X (jN i) (tV (cW c) c E f))) : PD X c E e (mK i f) := PE.imp h fun σ H Q ⟨ρ, F, ab, k⟩ => by
 unfold mK at k
 split at k
 ·rename_i kvs hi
  obtain ⟨_, hp, p, es, rfl, _⟩ := ab.slot i _ hi
  refine ⟨_, hp, ρ, F, ab, (Rk.bind k).imp fun d _ q v F1 H1 s1 r1 => ?_⟩
  split at q
  ·rename_i hs
   obtain ⟨p', es', hp', D, m⟩ := aBD hK hW (ab.ext s1) hi r1 hs
   rw [hp] at hp'
   cases hp'
   split at q
   ·rename_i w hw
    rcases m.get d with ⟨_, z⟩ | ⟨v', d', h1, h2, h3⟩
    ·rw [hw] at z; cases z
    ·rw [hw] at h2
     cases h2
     exact ⟨p, es', d, v', rfl, D, h1, Rk.ok q v' F1 H1 s1 h3⟩
   ·exact q.elim
  ·exact q.elim
 ·exact k.elim
def fH (i : Nat) (f g : Sg -> R PyData) : Sg -> R Fw := fun ρ => (g ρ).bind fun v => match ρ[i]? with
 | some (some (.m kvs)) => (f ρ).bind fun k => if cQ k (kvs.map (·.1)) = true /\ kvs.length <= 16777216 then .ok (.nx (ρ.set i (some (.m (putM kvs k v))))) else .bad
 | _ => .bad
def aF2 (X : Cx) : aAM := fun o i v H Q => ∃ p es k, o = .ref p /\ DicAt X H p es k i /\ es.length <= sizeLine /\ Q (upd H p (d7 X.w p (mY es k i v)))
theorem j7 (hu : X.A.units + 64 < cLine) : aIU X (aF2 X) := by
 intro pins s σ H o i v ov iv u Q I ro ri rv h
 obtain ⟨p, es, k, rfl, D, hz, q⟩ := h
 cases (show ov = Value.ref p from ro)
 exact aG2 hu D I ri rv hz fun s' I' => ⟨_, I', q⟩
theorem lL {i : Nat} {f g : Sg -> R PyData} (hK : X.K = c.K) (hW : X.w = c.w) (h : PS X st (kU (tV (cW c) c E g) (aIX (jN i) (tV (cW c) c E f) (aF2 X)))) : PSf X c E st (fH i f g) := PS.imp h fun D σ H ⟨ρ, F, ab, k⟩ => by
 refine ⟨ρ, F, ab, (Rk.bind k).imp fun x _ q v F1 H1 s1 r1 => ?_⟩
 split at q
 ·rename_i kvs hi
  have ab1 := ab.ext s1
  obtain ⟨_, hp, p, es, rfl, _⟩ := ab1.slot i _ hi
  refine ⟨_, hp, ρ, F1, ab1, ((Rk.bind q).ext s1).imp fun d _ q u F2 H2 s2 r2 => ?_⟩
  have ab2 := ab1.ext s2
  split at q
  ·rename_i hs
   obtain ⟨p', es', hp', D', m⟩ := aBD hK hW ab2 hi r2 hs.1
   rw [hp] at hp'
   cases hp'
   refine ⟨p, es', d, rfl, D', ?_, ?_⟩
   ·have : es'.length = kvs.length := by have := congrArg List.length m.k1; simpa using this
    rw [this, eB]; exact hs.2
   ·rw [hW]
    exact Rk.ok q σ F2 _ (s1.trans s2).ff (ab2.putM hi hp (m.put r2 (DatV.same s2.ff r1)))
  ·exact q.elim
 ·exact q.elim
end
end Fl
namespace Fl
open PySem L2 PyProof.Rows
section
variable {X : Cx} {c : Ct} {E : XK} {e a b : Expr} {st : Stmt} {pos p2 : Pos}
def j8 (fs : PyData -> Sg -> Option Sg) (f : Sg -> R PyData) : Sg -> R Fw := fun ρ => (f ρ).bind fun x => (xA (fs x ρ)).bind fun ρ' => .ok (.nx ρ')
theorem pM {g : TG} {fs : PyData -> Sg -> Option Sg} {is : List Nat} {f : Sg -> R PyData} (hg : Tg c g fs is) (h : PS X st (kU (tV (cW c) c E f) g)) : PSf X c E st (j8 fs f) := PS.imp h fun D σ H ⟨ρ, F, ab, k⟩ => by
 refine ⟨ρ, F, ab, (Rk.bind k).imp fun x _ q v F1 H1 s1 r1 => ?_⟩
 cases h1 : fs x ρ with
 | none => rw [h1] at q; exact q.elim
 | some ρ' =>
  rw [h1] at q
  exact hg v x ρ ρ' σ F1 H1 _ (ab.ext s1) r1 h1 fun σ' _ _ ab' => Rk.ok q σ' F1 H1 s1.ff ab'
def aJZ : PyData -> R PyData
 | .str z => if z.length <= 16777216 then .ok (.str ⟨z.cps.toList.reverse.toArray⟩) else .bad
 | _ => .bad
def aNN (f : Sg -> R PyData) (g : Sg -> R (Option Int)) : Sg -> R PyData := fun ρ => (f ρ).bind fun x => (g ρ).bind fun o => if o = some (-1) then aJZ x else .bad
end
end Fl
namespace Fl
open PySem L2 PyProof.Rows
theorem aJ0 {P : Program} {w : World} {K : Frag} {mg : Str -> Option Value} {base : Heap} {T : Hp} {x : Str} {st : Stmt} {N ps : List Str} {k : Nat} {f : Addr} {fd : FuncData} {fb : Sg -> R Fw} (FL : Fun K x x st f fd) (S : FnScope N ps (aL st))
  (hbody : ∀ (cdv : Value) (A : Around) (outer : List Env) (s : Shared) (H F : Hp) (E : XK), Room k (A.deeper (envOfC x (aL st) s.heap.objs.size f cdv)) ->
   kW ((j2 (CXe P w) P w K mg base N x (aL st) f cdv A outer s H E).fly E) ⟨K, mg, w, F, H, gOf P w K mg base T, (envOfC x (aL st) s.heap.objs.size f cdv).cells, fun _ => none⟩ E (c7 st) fb) : FnOk P w K mg base (CXe P w) (k + 1) f fd ps (spF (gOf P w K mg base T) K mg ps.length (fnF N.length fb)) := by
 refine FL.okX S (fun vs H Q E h => ?_) (fun cdv A outer s H vs Q E hr h => ?_)
 ·obtain ⟨F, as, _, _, h2, h3, _⟩ := h
  rw [h2.len, h3]
 ·obtain ⟨F, as, h0, h1, h2, h3, h4⟩ := h
  exact ⟨_, hbody cdv A outer s H F E hr, qI h0 h1 h2 h4⟩
def aBF (K : Frag) (T : Hp) : Sp := fun vs H Q _ => ∃ (a : Addr) (ns : List Int), vs = [.ref a] /\ ns.length <= 63 /\ aK T H /\ SqL K H a (ns.map V.int) /\ ∀ H', Q (.bl true) H'
theorem xD {K : Frag} {H : Hp} : ∀ (ns : List Int), DatVs K H (ns.map V.int) (ns.map PyData.int)
 | [] => .nil
 | n :: t => .cons (.int n) (xD t)
theorem aJ1 {P : Program} {w : World} {K : Frag} {mg : Str -> Option Value} {base : Heap} {T : Hp} {k : Nat} {f : Addr} {fd : FuncData} {x : Str} {G : List A -> R A} (h : FnOk P w K mg base (CXe P w) k f fd [x] (spF (gOf P w K mg base T) K mg 1 G))
  (hl : ∀ ns : List Int, ns.length <= 63 -> G [.d (.list (ns.map .int))] = .ok (.d (.bool true))) : FnOk P w K mg base (CXe P w) k f fd [x] (aBF K T) := h.imp fun vs H Q E => by
 rintro ⟨a, ns, rfl, hn, ht, hs, q⟩
 refine ⟨H, [.d (.list (ns.map .int))], ht, bY H, ⟨.lst hs (xD ns), trivial⟩, rfl, ?_⟩
 rw [hl ns hn]
 intro v F' H' _ r
 obtain rfl := DatV.bl_of r
 exact q H'
theorem aMA (P : Program) (w : World) (H : Hp) (s : Shared) (e : Value) (s' : Shared) (h : CXe P w [] H s (fun _ _ _ => False) e s') : False := by
 obtain ⟨_, _, _, _, _, _, _, _, _, _, _, q⟩ := h
 exact q
theorem aG6 {l : PySem.W.OpenLaw} {k : Nat} {q : Program} {loose : List Str} {XP : (Str -> Option Value) -> Heap -> Prop} {YP : World -> Heap -> Prop} {d : DefRec} {K : Params -> Frag} {x : Str} {qs : List (Pos × Str)} {xs : List Str}
  (hxs : ∀ x ∈ xs, ∃ d ∈ recsOf q, d.name = x) (hNT : ∀ w : World, PySem.W.noTabs (K w.params) = true)
  (hn : l.most = some 63) (hdf : d.params.defaults = []) (hr : Room k callerA)
  (hY : ∀ (w : World) (h : Heap), YP w h -> (K w.params).In h)
  (F : ∀ (w : World) (mg : Str -> Option Value) (fa : Addr) (h : Heap), (K w.params).In h -> h.Ns mainGlobals mg -> mg d.name = some (.ref fa) ->
   ∃ fd : FuncData, (∀ (s : Shared) (u : Value), BindsTo s fd ⟨[u], []⟩ [(x, u)]) /\
    ∀ (base : Heap) (T : Hp), (K w.params).In base -> base.Ns mainGlobals mg -> wV mg h base T qs xs -> FnOk l.prog w (K w.params) mg base (CXe l.prog w) k fa fd [x] (aBF (K w.params) T)) :
  PySem.W.WalkO q loose XP YP l.row.toRowW d [] (fun f vs => PySem.call f vs) :=
 walk_ofT (K := K) (CX := fun w => CXe l.prog w) (qs := qs) (xs := xs) hxs hNT hn (by decide) hdf hr hY (fun w mg fa h h1 h2 h3 => by
  obtain ⟨fd, hb, hF⟩ := F w mg fa h h1 h2 h3
  exact ⟨fd, hb, fun base T h1 h2 h3 => ⟨_, hF base T h1 h2 h3, fun H a ns hl hT hS => ⟨a, ns, rfl, hl, hT, hS, fun _ => rfl⟩⟩⟩) fun w H s e s' z => aMA _ w H s e s' z
end Fl
namespace Fl
open PySem L2 PyProof.Rows
variable {X : Cx} {c : Ct} {E : XK} {e : Expr}
def d2 (G : Int -> Int -> Int) : PyData -> PyData -> R PyData
 | .int i, .int j => .ok (.int (G i j))
 | _, _ => .bad
def d1 (G : Int -> Int) : PyData -> R PyData
 | .int i => .ok (.int (G i))
 | _ => .bad
end Fl
namespace L2
open PySem PyProof.Rows
variable {X : Cx}
end L2
namespace Fl
open PySem L2 PyProof.Rows
variable {X : Cx} {c : Ct} {E : XK} {e : Expr}
end Fl
namespace Fl
open PySem L2 PyProof.Rows
variable {X : Cx} {c : Ct} {E : XK} {e : Expr} {st : Stmt}
end Fl
namespace Fl
open PySem L2 PyProof.Rows
theorem yY {H : Hp} {p : Addr} {a b : HO} : upd (upd H p a) p b = upd H p b := by
 funext x
 by_cases q : x = p
 · subst q; rw [a7, a7]
 · rw [aQ q, aQ q, aQ q]
section
variable {X : Cx} {pins : List (Addr × Obj)} {σ : L2.St} {H : Hp} {s : Shared} {a : Addr} {es : List Ent} {k : PyData} {kv v : V} {ku u : Value} {A : Around} {E : Value -> Shared -> Prop}
theorem aBG {A : Around} (hu : A.units + 64 < cLine) : (i4 X.prog X.w).room A := by show A.units + 9 < cLine; omega
theorem aG7 {Q : Unit -> Shared -> Prop} (hu : A.units + 64 < cLine) (D : DicAt X H a es k kv) (I : Inv X pins σ H s) (rk : a5 kv ku) (rv : a5 v u) (hz : es.length <= sizeLine) (h : ∀ s', Inv X pins σ (upd H a (d7 X.w a (mY es k kv v))) s' -> Q () s') :
  wpAny (model X.prog X.w) A (dictSet a ku u) Q E s := by
 obtain ⟨hd, ⟨b, xs, rfl, rfl, hx, hk, dd⟩ | ⟨kk, xs, rfl, rfl, hx, hk, dd⟩⟩ := D.cases I rk
 ·have hl : xs.length <= sizeLine := by rw [<- Paired.length hx]; exact hz
  refine wpAny_dictSet_heap (a := b) (aBG hu) hk dd (fun h' dd' hs => h _ ?_) hl
  obtain ⟨q', ar, ep, hq, h2, h3, h4, _, h5⟩ := dd'
  refine qA I (by rw [D.o]; exact True.intro) hs ⟨q', hq⟩ (lJ hd ⟨q', ar, ep, hq, h2, h3, ?_⟩)
  rw [h4]
  exact rR (aFU rv hx)
 ·have hl : xs.length <= sizeLine := by rw [<- Paired.length hx]; exact hz
  refine wpAny_dictSet_pairs hk dd (fun h' dd' hs => h _ ?_) hl
  obtain ⟨q', ar, ep, hq, h2, h3, h4, h5, _⟩ := dd'
  refine qA I (by rw [D.o]; exact True.intro) hs ⟨q', hq⟩ (lJ hd ⟨q', ar, ep, hq, h2, h3, ?_⟩)
  exact rS (aFW rv hx) h5 fun en hen => h4 en (by simpa using hen)
end
abbrev TP := L2.St -> Hp -> (List (V × V) -> Hp -> Prop) -> Prop
def aJ2 (p : V × V) (u : Value × Value) : Prop := a5 p.1 u.1 /\ a5 p.2 u.2
def PPr (X : Cx) (keys : List (Option Expr)) (vals : List Expr) (t : TP) : Prop := ∀ (pos : Pos) (pins : List (Addr × Obj)) (s : Shared) (σ : L2.St) (H : Hp) (Q : List (V × V) -> Hp -> Prop), Inv X pins σ H s -> t σ H Q ->
 wpAny (model X.prog X.w) X.A (evalPairs (pairTrees keys vals X.env pos)) (fun vs s' => ∃ ps H', Inv X pins σ H' s' /\ Paired aJ2 ps vs /\ Q ps H') X.xe s
def aMB : TP := fun _ H Q => Q [] H
def aJ3 (tk tv : TE) (t : TP) : TP := fun σ H Q => tk σ H fun x H1 => tv σ H1 fun y H2 => t σ H2 fun ps H3 => Q ((x, y) :: ps) H3
section
variable {X : Cx} {c : Ct} {E : XK} {e a b : Expr} {st : Stmt} {pos : Pos}
theorem aJ4 : PPr X [] [] aMB := fun pos pins s σ H Q I h => evalPairs_nil ⟨[], H, I, .nil, h⟩
theorem aG8 {k v : Expr} {ks : List (Option Expr)} {vs : List Expr} {tk tv : TE} {t : TP} (hk : PE X k tk) (hv : PE X v tv) (hr : PPr X ks vs t) : PPr X (some k :: ks) (v :: vs) (aJ3 tk tv t) := by
 intro pos pins s σ H Q I h
 rw [pairTrees.eq_1]
 refine evalPairs_cons (thn (hk pins s σ H _ I h) fun ku s1 ⟨x, H1, I1, r1, q1⟩ => ?_)
 refine wpAny_bind (thn (hv pins s1 σ H1 _ I1 q1) fun vu s2 ⟨y, H2, I2, r2, q2⟩ => ?_)
 refine wpAny_bind (wpAny_standAt (wpAny_pure ?_))
 exact thn (hr pos pins s2 σ H2 _ I2 q2) fun vs s3 ⟨ps, H3, I3, r3, q3⟩ => ⟨(x, y) :: ps, H3, I3, .cons ⟨r1, r2⟩ r3, q3⟩
def gA : List (PyData × PyData) -> List (PyData × PyData) -> R (List (PyData × PyData))
 | acc, [] => .ok acc
 | acc, (k, v) :: t => if cQ k (acc.map (·.1)) = true /\ acc.length <= 16777216 then gA (putM acc k v) t else .bad
def aER (K : Frag) (F : Hp) (p : V × V) (d : PyData × PyData) : Prop := DatV K F p.1 d.1 /\ DatV K F p.2 d.2
theorem aC2 {pins : List (Addr × Obj)} {σ : L2.St} {p : Addr} {F : Hp} (hu : X.A.units + 64 < cLine) (kvs : List (PyData × PyData)) : ∀ (ps : List (V × V)) (vs : List (Value × Value)) (acc res : List (PyData × PyData)) (es : List Ent) (H : Hp) (s : Shared) (Q : Shared -> Prop),
  Inv X pins σ H s -> aK F H -> F p = none -> H p = some (d7 X.w p es) -> MapRel X.K F es acc -> Paired (aER X.K F) ps kvs -> Paired aJ2 ps vs -> gA acc kvs = .ok res ->
  (∀ es' s', Inv X pins σ (upd H p (d7 X.w p es')) s' -> MapRel X.K F es' res -> Q s') -> wpAny (model X.prog X.w) X.A (storeAll p vs) (fun _ s => Q s) X.xe s := by
 induction kvs with
 | nil =>
  intro ps vs acc res es H s Q I sf hf hp m d r e q
  cases d
  cases r
  cases e
  have hs : storeAll p [] = pure PUnit.unit := by unfold storeAll; rw [List.forIn_nil]
  rw [hs]
  refine wpAny_pure (q es s ?_ m)
  have : upd H p (d7 X.w p es) = H := by
   funext x
   by_cases z : x = p
   ·subst z; rw [a7, hp]
   ·rw [aQ z]
  rw [this]; exact I
 | cons kv t ih =>
  obtain ⟨k, v⟩ := kv
  intro ps vs acc res es H s Q I sf hf hp m d r e q
  cases d with
  | @cons x _ ps _ d ds =>
   cases r with
   | @cons _ u _ vs r rs =>
    unfold gA at e
    split at e
    ·rename_i hs
     have D : DicAt X H p es k x.1 := ⟨hp, fun e he => (pL m.k1 m.k2 e he).same sf, by rw [m.k1]; exact m.nd, d.1.same sf, by rw [m.k1]; exact hs.1⟩
     have hl : es.length <= sizeLine := by
      have : es.length = acc.length := by simpa using congrArg List.length m.k1
      rw [this, eB]; exact hs.2
     have hst : storeAll p (u :: vs) = (do dictSet p u.1 u.2; storeAll p vs) := by
      unfold storeAll
      rw [List.forIn_cons]
      simp
     rw [hst]
     refine wpAny_bind (aG7 hu D I r.1 r.2 hl fun s' I' => ?_)
     have m' := m.put d.1 d.2
     have sf' : aK F (upd H p (d7 X.w p (mY es k x.1 x.2))) := fun a o z => by rw [aQ (bE z hf)]; exact sf a o z
     refine ih ps vs _ res _ _ s' Q I' sf' hf a7 m' ds rs e fun es' s'' I'' m'' => ?_
     rw [yY] at I''
     exact q es' s'' I'' m''
    ·cases e
def aF3 (X : Cx) (tp : TP) : TE := fun σ H Q => ∀ p, H p = none -> tp σ (upd H p (d7 X.w p [])) fun ps H2 => ∃ (F : Hp) (kvs res : List (PyData × PyData)), aK F H2 /\ F p = none /\ H2 p = some (d7 X.w p []) /\ Paired (aER X.K F) ps kvs /\ gA [] kvs = .ok res /\
 ∀ es', MapRel X.K F es' res -> Q (.ref p) (upd H2 p (d7 X.w p es'))
theorem zO {keys : List (Option Expr)} {vals : List Expr} {tp : TP} (hu : X.A.units + 64 < cLine) (h : PPr X keys vals tp) (h1 : (keys.all fun x => x.isSome) = true := by rfl) (h2 : keys.length = vals.length := by rfl) (h3 : keys ≠ [] := by exact fun z => nomatch z) (h4 : keys.length <= 15 := by decide) : PE X (.Dict keys vals pos) (aF3 X tp) := by
 intro pins s σ H Q I q
 have I1 := I.laid (a := s.heap.objs.size) (o := d7 X.w s.heap.objs.size []) (t' := s.toks) (fun _ _ q => Heap.get?_push_of_some { cls := .type "dict", data := .dict #[] } q) (Nat.le_refl _)
  (lJ (beq_eq_false_iff_ne.mpr (Ne.symm (Nat.ne_of_lt I.big))) ⟨_, #[], 0, Heap.get?_push_size _ rfl, ⟨rfl, rfl, rfl⟩, rfl, .nil⟩)
 have q1 := q _ (I.hok.fresh (Nat.le_refl _))
 refine wpAny_Dict_any h1 h2 h3 h4 (thn (h pos pins _ σ _ _ I1 q1) fun vs s2 ⟨ps, H2, I2, r, F, kvs, res, sf, hf, hp, d, e, z⟩ => ?_)
 exact aC2 hu kvs ps vs [] res [] H2 s2 _ I2 sf hf hp ⟨rfl, .nil, .nil, List.nodup_nil⟩ d r e fun es' s' I' m => ⟨.ref s.heap.objs.size, _, I', rfl, z es' m⟩
def aJ5 (c : Ct) (E : XK) (f : Sg -> R (List (PyData × PyData))) : TP := fun σ H Q => ∃ ρ F, Ab c ρ σ F H /\ Rk c E F H (f ρ) fun kvs => ∀ ps F' H', Ext F H F' H' -> Paired (aER c.K F') ps kvs -> Q ps H'
abbrev PPf (X : Cx) (c : Ct) (E : XK) (keys : List (Option Expr)) (vals : List Expr) (f : Sg -> R (List (PyData × PyData))) : Prop := PPr X keys vals (aJ5 c E f)
theorem PPr.imp {X : Cx} {ks : List (Option Expr)} {vs : List Expr} {t t' : TP} (h : PPr X ks vs t) (i : ∀ σ H Q, t' σ H Q -> t σ H Q) : PPr X ks vs t' := fun pos pins s σ H Q I q => h pos pins s σ H Q I (i σ H Q q)
def r0 : Sg -> R (List (PyData × PyData)) := fun _ => .ok []
def n8 (f g : Sg -> R PyData) (r : Sg -> R (List (PyData × PyData))) : Sg -> R (List (PyData × PyData)) := fun ρ => (f ρ).bind fun x => (g ρ).bind fun y => (r ρ).bind fun t => .ok ((x, y) :: t)
theorem zP : PPf X c E [] [] r0 := PPr.imp aJ4 fun σ H Q ⟨ρ, F, ab, k⟩ => Rk.ok k [] F H (Ext.refl ab.fh) .nil
theorem xE {k v : Expr} {ks : List (Option Expr)} {vs : List Expr} {f g : Sg -> R PyData} {r : Sg -> R (List (PyData × PyData))} (hk : PD X c E k f) (hv : PD X c E v g) (hr : PPf X c E ks vs r) : PPf X c E (some k :: ks) (v :: vs) (n8 f g r) := PPr.imp (aG8 hk hv hr) fun σ H Q ⟨ρ, F, ab, k⟩ => by
 refine ⟨ρ, F, ab, (Rk.bind k).imp fun x _ q v F1 H1 s1 r1 => ?_⟩
 refine ⟨ρ, F1, ab.ext s1, ((Rk.bind q).ext s1).imp fun y _ q u F2 H2 s2 r2 => ?_⟩
 refine ⟨ρ, F2, ab.ext (s1.trans s2), ((Rk.bind q).ext (s1.trans s2)).imp fun t _ q ps F3 H3 s3 r3 => ?_⟩
 exact Rk.ok q _ F3 H3 ((s1.trans s2).trans s3) (.cons ⟨DatV.same (s2.trans s3).ff r1, DatV.same s3.ff r2⟩ r3)
def n9 (i : Nat) (f : Sg -> R (List (PyData × PyData))) : Sg -> R Fw := fun ρ => (f ρ).bind fun kvs => (gA [] kvs).bind fun res => .ok (.nx (ρ.set i (some (.m res))))
theorem vL : ∀ (kvs acc : List (PyData × PyData)) (x : Er), gA acc kvs ≠ .ex x
 | [], acc, x, h => by cases h
 | (k, v) :: t, acc, x, h => by
  unfold gA at h
  split at h
  · exact vL t _ x h
  · cases h
theorem zQ {i : Nat} {f : Sg -> R (List (PyData × PyData))} (hK : X.K = c.K) (hW : X.w = c.w) (h : PS X st (kU (aF3 X (aJ5 c E f)) (jO i))) : PSf X c E st (n9 i f) := PS.imp h fun D σ H ⟨ρ, F, ab, k⟩ => fun p hp => by
 have e1 := Ext.own (F := F) (o := d7 X.w p []) ab.fh hp
 refine ⟨ρ, F, ab.ext e1, ((Rk.bind k).ext e1).imp fun kvs _ q ps F2 H2 s2 r2 => ?_⟩
 have hf : F2 p = none := s2.stay (cB ab.fh hp) a7 (fun _ z => wZ z)
 have h2 : H2 p = some (d7 X.w p []) := s2.hh _ _ a7
 cases e : gA [] kvs with
 | bad => rw [e] at q; exact q.elim
 | ex x => exact absurd e (vL _ _ _)
 | ok res =>
  rw [e] at q
  refine ⟨F2, kvs, res, s2.fh, hf, h2, by rw [hK]; exact r2, e, fun es' m => ?_⟩
  have e3 : Ext F H F2 (upd H2 p (d7 X.w p es')) := by
   refine ⟨fun a o z => ?_, s2.ff, fun a o z => ?_, fun a z n => ?_⟩
   ·have ne : a ≠ p := bE z hp
    rw [aQ ne]
    exact s2.hh a o (by rw [aQ ne]; exact z)
   ·rw [aQ (bE z hf)]; exact s2.fh a o z
   ·have := s2.nw a z n
    by_cases w : a = p
    · subst w; exact .inl hp
    · unfold mG at this; rw [aQ w] at this; exact this
  rw [hW] at e3 ⊢
  rw [hK] at m
  exact Rk.ok q _ F2 _ s2.ff (ab.setM e3 hp a7 hf m)
end
end Fl
namespace Fl
open PySem L2 PyProof.Rows
section
variable {X : Cx} {c : Ct} {E : XK} {e a b : Expr} {st : Stmt} {pos : Pos}
def aJ6 (i : Nat) (f g : Sg -> R PyData) : Sg -> R PyData := fun ρ => match ρ[i]? with
 | some (some (.m kvs)) => (f ρ).bind fun k => (g ρ).bind fun y => if cQ k (kvs.map (·.1)) = true then .ok ((iP kvs k).getD y) else .bad
 | _ => .bad
end
end Fl
namespace L2
open PySem PySem.Spec PyProof.Rows
def uL (X : Cx) (σ0 : St) (E : XK) (ev : Value) (s' : Shared) : Prop := ∃ e C od H', ev = .ref e /\ Inv X [] σ0 H' s' /\ FlyAt X H' s'.heap e C od false /\ E (.ref C) (some e) H'
abbrev Cx.flyS (X : Cx) (σ0 : St) (E : XK) : Cx := X.wish (uL X σ0 E)
section
variable {X : Cx}
theorem aMC {E : XK} {σ : St} {pins : List (Addr × Obj)} {H : Hp} {s : Shared} {ev : Value} {s' : Shared} (I : Inv (X.flyS σ E) pins σ H s) (h : CXe X.prog X.w X.stack H s E ev s') : uL X σ E ev s' := by
 obtain ⟨e, C, od, H', rfl, os, bare, un, hok, he, ⟨vs, T, q1, q2, q3⟩, q⟩ := h
 have I0 : Inv X pins σ H s := I.unwish
 have I1 : Inv X [] σ H s := I0.pins_of fun p hp => absurd hp (by simp)
 have I2 : Inv X [] σ H' s' := I1.call' os un hok bare (fun b hb => absurd hb (by simp))
 refine ⟨e, C, od, H', rfl, I2, ⟨he, vs, T, q1, q2, fun t e1 => ?_, fun z => nomatch z⟩, q⟩
 obtain ⟨t1, t2⟩ := q3 t e1
 refine ⟨t1, Nat.le_trans I0.sz t2, fun p hp z => ?_⟩
 have := Heap.lt_size (I0.pin p (List.mem_append_left _ hp)).1
 rw [z] at this
 exact absurd (Nat.lt_of_lt_of_le this t2) (Nat.lt_irrefl _)
theorem aG9 {CX : CXT} {k : Nat} {f : Addr} {fd : FuncData} {ps : List Str} {sp : Sp} {E : XK} {pins : List (Addr × Obj)} {σ : St} {H : Hp} {s : Shared} {Q : VK} {us : List Value} {vs : List V} {W : Value -> Shared -> Prop} (F : FnOk X.prog X.w X.K X.mg X.base CX k f fd ps sp) (hr : Room k X.A) (hb : iE X.K fd ps [])
  (hx : ∀ e s', CX X.stack H s E e s' -> W e s') (I : Inv X pins σ H s) (r : bH vs us) (h : sp (vs ++ []) H Q E) : wpAny (model X.prog X.w) X.A (call (.ref f) us) (EP X pins σ Q) W s := by
 have r2 : bH (vs ++ []) (us ++ []) := r.append .nil
 have hl : (us ++ []).length = ps.length := by rw [<- r2.length]; exact F.len _ _ _ _ h
 refine wpAny_call (codeAny_mono (F.run X.A X.stack s H ⟨us, []⟩ (us ++ []) (vs ++ []) Q E hr I.env0 (hb s us I.kIn hl) r2 h) fun r s' hq => ?_)
 cases r with
 | error e => exact hx e s' hq
 | ok fl =>
  cases fl with
  | ret u => exact I.after hq
  | next => exact False.elim hq
  | brk => exact False.elim hq
  | cont => exact False.elim hq
def PCl (X : Cx) (σ : St) (E : XK) (e : Expr) (t : TE) : Prop := ∀ (pins : List (Addr × Obj)) (s : Shared) (H : Hp) (Q : VK), Inv (X.flyS σ E) pins σ H s -> t σ H Q -> wpAny (model X.prog X.w) X.A (eval e X.env) (EP (X.flyS σ E) pins σ Q) (uL X σ E) s
theorem aJ7 {k : Nat} {x : Str} {ps : List Str} {sp : Sp} {E : XK} {σ : St} {e : Expr} {es : List Expr} {t : TA} {p pos : Pos} (C : Calls X.prog X.w X.K X.mg X.base (CXe X.prog X.w) k x ps sp) (hr : Room k X.A) (hg : Gl X x) (ha : PA (X.flyS σ E) (e :: es) t) (hdb : (x == ("__debug__" : Str)) = false := by decide)
  (he : starEach (e :: es) X.env = (false, eval e X.env) :: starEach es X.env := by rfl) (hpl : (backTo pos (starEach es X.env)).any (·.1) = false := by rfl) : PCl X σ E (.Call (.Name x p) (e :: es) [] pos) (p8 sp [] E t) := by
 obtain ⟨f, fd, F, b, m, kp⟩ := C
 intro pins s H Q I h
 refine wpAny_Call_Name_kw (lH (X := X.flyS σ E) I hg m ?_ hdb)
 refine PySem.W.callWith_K (h₀ := X.base) I.ok.mod.kin kp (thn (ha pos pins s σ H _ I h) fun us s1 ⟨vs, H1, I1, r, q⟩ => ⟨I1.kIn, ?_⟩) he hpl
 exact aG9 (X := X.flyS σ E) F hr b (fun e s' z => aMC I1 z) I1 r q
theorem aMD {i : Nat} {n x : Str} {Wc : Addr} {bmW : List Value} {body suite : List Stmt} {b0 : Stmt} {np hpos pos : Pos} (hO : mC X) (hN : X.N.Nodup) (hi : X.N[i]? = some n) (hk : X.env.scope.names.lookup n = some .local)
  (hg : Gl X x) (hm : X.mg x = some (.ref Wc)) (hw : SX.ExcAny X.K Wc bmW) (hdb : (x == ("__debug__" : Str)) = false) {pins : List (Addr × Obj)} {s : Shared} {σ : St} {H : Hp} {D : iQ} {E : XK} (I : Inv X pins σ H s)
  (hb : wpAny (model X.prog X.w) X.A (execs body X.env) (fun f s1 => SP X pins D f s1) (uL (X.pnw (X.pn ++ pins)) σ E) s)
  (hh : ∀ (C e : Addr) (H' : Hp), (∃ od, H' e = some (ExO e C od)) -> E (.ref C) (some e) H' -> ∃ bm, SX.ExcAny X.K C bm /\ (Value.ref C :: bm).contains (.ref Wc) = true /\
   ∃ ts, PSs (X.inH e) (b0 :: suite) ts /\ ts { nx := fun σ2 H2 => D.nx (σ2.set i none) H2, rt := D.rt, bk := fun σ2 H2 => D.bk (σ2.set i none) H2, ct := fun σ2 H2 => D.ct (σ2.set i none) H2 } (σ.set i (some (.ref e))) H') :
  wpAny (model X.prog X.w) X.A (exec (.Try body [.ExceptHandler (some (.Name x np)) (some n) (b0 :: suite) hpos] [] [] pos) X.env) (SP X pins D) X.xe s := by
 refine wpAny_Try_except (wpAny_mono hb (fun f s1 q' => ?_) fun ev s1 q => ?_)
 ·cases f with
  | next => exact wpAny_execs_nil q'
  | brk => exact q'
  | cont => exact q'
  | ret u => exact q'
 ·obtain ⟨e, C, od, H1, rfl, I2, f2, q⟩ := q
  have hO' : mC (X.pnw (X.pn ++ pins)) := hO
  refine nU (X := X.pnw (X.pn ++ pins)) hO' I2 f2 fun s3 I3 f3 => m5 (X := X.pnw (X.pn ++ pins)) I3 f3 fun s4 I4 f4 => ?_
  have I4' : Inv X pins σ H1 s4 := I4.ofPn
  obtain ⟨bm, cA, hcon, ts, pts, qts⟩ := hh C e H1 ⟨od, f4.tr⟩ q
  refine wpAny_handleBy_cons (codeAny_handlers_test ?_) (by intro z; cases z)
  have IH : Inv (X.inH e) pins σ H1 s4 := I4'.inH e
  refine lH (X := X.inH e) IH hg hm ?_ hdb
  obtain ⟨vs, hx⟩ := sW I4'.hok f4.tr
  refine SX.yO I4'.kIn cA hw hx rfl ?_
  rw [hcon]
  refine codeAny_handlers_suite_as ?_
  refine m5 (X := X.pnw (X.pn ++ pins)) I4 f4 fun s5 I5 f5 => ?_
  have I5' : Inv X pins σ H1 s5 := I5.ofPn
  refine lQ (X := X.inH e) (v := .ref e) (I5'.inH e) hN hi (.inl hk) rfl (fun s6 I6 => ?_) (.inr hk)
  refine wpAny_mono (pts pins s6 _ H1 _ I6 qts) (fun f s7 q7 => ?_) fun _ _ z => z.elim
  show wpAny _ _ (do bindName X.env n .none; unbindBehindTheSuite X.env n hpos) _ _ s7
  cases f with
  | next =>
   obtain ⟨σ7, H7, I7, q7⟩ := q7
   exact mD (I7.ofH I.ok) hN hi hk fun s8 I8 => ⟨_, _, I8, q7⟩
  | brk =>
   obtain ⟨σ7, H7, I7, q7⟩ := q7
   exact mD (I7.ofH I.ok) hN hi hk fun s8 I8 => ⟨_, _, I8, q7⟩
  | cont =>
   obtain ⟨σ7, H7, I7, q7⟩ := q7
   exact mD (I7.ofH I.ok) hN hi hk fun s8 I8 => ⟨_, _, I8, q7⟩
  | ret u =>
   obtain ⟨v, σ7, H7, I7, r7, q7⟩ := q7
   exact mD (I7.ofH I.ok) hN hi hk fun s8 I8 => ⟨v, _, _, I8, r7, q7⟩
theorem aES {e : Expr} {t : TE} {E : XK} {σ : St} {pos pos' : Pos} {j : Nat} {y : Str} {pins : List (Addr × Obj)} {s : Shared} {H : Hp} {D : iQ} (hc : PCl (X.pnw (X.pn ++ pins)) σ E e t) (hN : X.N.Nodup) (hj : X.N[j]? = some y) (hx : Loc X.env.scope y) (I : Inv X pins σ H s) (h : t σ H fun v H1 => D.nx (σ.set j (some v)) H1) (hs : swapsWith e (some (.Name y pos')) pos.line X.env = pure false := by rfl) (hf : X.fn y = true \/ X.env.scope.names.lookup y = some .local := by first | exact .inl rfl | exact .inr rfl | assumption) :
  wpAny (model X.prog X.w) X.A (execs [.Assign [.Name y pos'] e pos] X.env) (fun f s1 => SP X pins D f s1) (uL (X.pnw (X.pn ++ pins)) σ E) s := by
 have I1 := I.toPn
 have I1' : Inv ((X.pnw (X.pn ++ pins)).flyS σ E) [] σ H s := I1.wish _
 refine wpAny_execs_cons (thn (Q := fun f s1 => SP ((X.pnw (X.pn ++ pins)).flyS σ E) [] D f s1) (wpAny_Assign_Name (thn (hc [] s H _ I1' h) fun v s1 ⟨x, H1, I1, r1, q1⟩ => lQ (X := (X.pnw (X.pn ++ pins)).flyS σ E) I1 hN hj hx r1 (fun s2 I2 => ⟨_, H1, I2, q1⟩) hf) hs) fun f s1 q => ?_)
 have q' := SP.ofPn q
 cases f with
 | next => exact wpAny_execs_nil q'
 | ret v => exact q'
 | brk => exact q'
 | cont => exact q'
end
end L2
namespace Fl
open PySem L2 PyProof.Rows
theorem Ab.off' {c : Ct} {ρ : Sg} {σ : L2.St} {F H : Hp} (b : Ab c ρ σ F H) (i : Nat) : Ab c (ρ.set i none) (σ.set i none) F H where
 len := by rw [List.length_set, List.length_set]; exact b.len
 fh := b.fh
 slot := fun j a h => by
  rcases get_set h with ⟨e, q, hl⟩ | ⟨ne, q⟩
  ·cases q
  ·obtain ⟨v, h1, h2⟩ := b.slot j a q
   exact ⟨v, by rw [List.getElem?_set_ne ne]; exact h1, h2⟩
 apart := fun j k a a' hne h1 h2 o1 o2 => by
  rcases get_set h1 with ⟨e, q, hl⟩ | ⟨ne, q⟩
  ·cases q
  ·rcases get_set h2 with ⟨e', q', hl'⟩ | ⟨ne', q'⟩
   ·cases q'
   ·rw [List.getElem?_set_ne ne, List.getElem?_set_ne ne']
    exact b.apart j k a a' hne q q' o1 o2
 f0 := b.f0
 h0 := b.h0
 n0 := b.n0
 t0 := b.t0
def aET (i : Nat) : Fw -> Fw
 | .nx ρ => .nx (ρ.set i none)
 | .bk ρ => .bk (ρ.set i none)
 | .ct ρ => .ct (ρ.set i none)
 | .rt a => .rt a
def putO (j : Option Nat) (a : A) (ρ : Sg) : Sg := match j with
 | none => ρ
 | some j => ρ.set j (some a)
def xF (i : Nat) (j : Option Nat) (n : Nat) (G : List A -> R A) (f : Sg -> R (List A)) (cl : List Str) (fs : Sg -> R Fw) : Sg -> R Fw := fun ρ => match f ρ with
 | .ok as => if as.length = n then (match G as with
  | .bad => .bad
  | .ok a => .ok (.nx (putO j a ρ))
  | .ex e => if cl.contains e.c = true then (fs (ρ.set i (some (.x e)))).bind fun w => .ok (aET i w) else .bad) else .bad
 | _ => .bad
def uM (K : Frag) (mg : Str -> Option Value) (Wc : Addr) (cl : List Str) : Prop := ∀ nm ∈ cl, ∃ C bm, mg nm = some (.ref C) /\ SX.ExcAny K C bm /\ (Value.ref C :: bm).contains (.ref Wc) = true
section
variable {X : Cx} {c : Ct} {E : XK}
theorem try_read {i n : Nat} {j : Option Nat} {nx x : Str} {Wc : Addr} {bmW : List Value} {body suite : List Stmt} {b0 : Stmt} {np hpos pos : Pos} {G : List A -> R A} {f : Sg -> R (List A)} {cl : List Str} {fs : Sg -> R Fw} (hK : X.K = c.K) (hM : X.mg = c.mg)
  (hO : mC X) (hN : X.N.Nodup) (hi : X.N[i]? = some nx) (hk : X.env.scope.names.lookup nx = some .local) (hg : Gl X x) (hm : X.mg x = some (.ref Wc)) (hw : SX.ExcAny X.K Wc bmW) (hdb : (x == ("__debug__" : Str)) = false)
  (hcl : uM X.K X.mg Wc cl)
  (hb : ∀ (pins : List (Addr × Obj)) (s : Shared) (σ : L2.St) (H : Hp) (D : iQ) (E' : XK), Inv X pins σ H s -> p8 (spF c.g X.K X.mg n G) [] E' (tAv c E f) σ H (fun v H1 => D.nx (match j with | none => σ | some j => σ.set j (some v)) H1) -> wpAny (model X.prog X.w) X.A (execs body X.env) (fun f s1 => SP X pins D f s1) (uL (X.pnw (X.pn ++ pins)) σ E') s)
  (hs : ∀ e, kW (X.inH e) c E (b0 :: suite) fs) : PSf X c E (.Try body [.ExceptHandler (some (.Name x np)) (some nx) (b0 :: suite) hpos] [] [] pos) (xF i j n G f cl fs) := by
 intro pins s σ H D I h
 obtain ⟨ρ, F, ab, k⟩ := h
 unfold xF at k
 cases hf : f ρ with
 | bad => rw [hf] at k; exact k.elim
 | ex z => rw [hf] at k; exact k.elim
 | ok as =>
  rw [hf] at k
  simp only at k
  by_cases hn : as.length = n
  ·rw [if_pos hn] at k
   let E' : XK := fun cv oa H' => ∃ C a e F', cv = .ref C /\ oa = some a /\ Ext F H F' H' /\ j6 c.K c.mg F' e a C /\ G as = .ex e
   refine aMD (E := E') hO hN hi hk hg hm hw hdb I (hb pins s σ H D E' I ?_) ?_
   ·refine ⟨ρ, F, ab, ?_⟩
    rw [hf]
    intro vs F1 H1 s1 r1
    refine ⟨F1, as, fun a o z => s1.ff a o (ab.f0 a o (ab.t0 a o z)), s1.fh, by rw [List.append_nil, hK, hM]; exact r1, hn, ?_⟩
    cases hG : G as with
    | bad => rw [hG] at k; exact k
    | ok a =>
     rw [hG] at k
     intro v F' H' s' r'
     rw [hK, hM] at r'
     have ab' := (ab.ext (s1.trans s'))
     refine Rk.ok k _ F' H' (s1.trans s').ff ?_
     cases j with
     | none => exact ab'
     | some j => exact ab'.setA r'
    | ex e =>
     intro a C F' H' s' r'
     rw [hK, hM] at r'
     exact ⟨C, a, e, F', rfl, rfl, s1.trans s', r', hG⟩
   ·rintro C e H' ⟨od, _⟩ ⟨C', a, er, F', h1, h2, s', r', hG⟩
    cases h1
    cases h2
    rw [hG] at k
    simp only at k
    by_cases hc : cl.contains er.c = true
    ·rw [if_pos hc] at k
     obtain ⟨C2, bm, m2, ca, co⟩ := hcl er.c (by simpa using hc)
     obtain ⟨m1, _⟩ := id r'
     rw [hM, m1] at m2
     cases m2
     refine ⟨bm, ca, co, _, hs e, ρ.set i (some (.x er)), F', (ab.ext s').setA ⟨e, C, rfl, r'⟩, ?_⟩
     have k' := (Rk.bind k).ext s'
     refine k'.imp fun w _ q => ?_
     cases w with
     | nx ρ2 => exact fun σ2 F2 H2 s2 ab2 => Rk.ok q _ F2 H2 (fun a o z => s2 a o (s'.ff a o z)) (ab2.off' i)
     | bk ρ2 => exact fun σ2 F2 H2 s2 ab2 => Rk.ok q _ F2 H2 (fun a o z => s2 a o (s'.ff a o z)) (ab2.off' i)
     | ct ρ2 => exact fun σ2 F2 H2 s2 ab2 => Rk.ok q _ F2 H2 (fun a o z => s2 a o (s'.ff a o z)) (ab2.off' i)
     | rt a => exact fun v F2 H2 s2 r2 => Rk.ok q v F2 H2 s2 r2
    ·rw [if_neg hc] at k; exact k.elim
  ·rw [if_neg hn] at k; exact k.elim
theorem aHA {i n j : Nat} {nx x y : Str} {Wc : Addr} {bmW : List Value} {suite : List Stmt} {b0 : Stmt} {call : Expr} {np hpos pos epos pos' : Pos} {G : List A -> R A} {f : Sg -> R (List A)} {cl : List Str} {fs : Sg -> R Fw} (hK : X.K = c.K) (hM : X.mg = c.mg)
  (hO : mC X) (hN : X.N.Nodup) (hj : X.N[j]? = some y) (hy : Loc X.env.scope y) (hi : X.N[i]? = some nx) (hk : X.env.scope.names.lookup nx = some .local) (hg : Gl X x) (hm : X.mg x = some (.ref Wc)) (hw : SX.ExcAny X.K Wc bmW) (hcl : uM X.K X.mg Wc cl)
  (hc : ∀ pn σ E', PCl (X.pnw pn) σ E' call (p8 (spF c.g X.K X.mg n G) [] E' (tAv c E f)))
  (hs : ∀ e, kW (X.inH e) c E (b0 :: suite) fs) (hdb : (x == ("__debug__" : Str)) = false := by decide) (hsw : swapsWith call (some (.Name y pos')) epos.line X.env = pure false := by rfl) (hf : X.fn y = true \/ X.env.scope.names.lookup y = some .local := by first | exact .inl rfl | exact .inr rfl | assumption) :
  PSf X c E (.Try [.Assign [.Name y pos'] call epos] [.ExceptHandler (some (.Name x np)) (some nx) (b0 :: suite) hpos] [] [] pos) (xF i (some j) n G f cl fs) :=
 try_read (j := some j) hK hM hO hN hi hk hg hm hw hdb hcl (fun pins s σ H D E' I h => aES (hc _ _ _) hN hj hy I h hsw hf) hs
end
end Fl
namespace Fl
open PySem L2 PyProof.Rows
end Fl
namespace Fl
open PySem L2 PyProof.Rows
def Is1 (K : Frag) (mg : Str -> Option Value) (nm q : Str) (b : Bool) : Prop := ∃ D C, mg q = some (.ref D) /\ mg nm = some (.ref C) /\ PySem.W.kitOne K (.ref C) (.ref D) = some b
def xG (K : Frag) (mg : Str -> Option Value) (nm : Str) (T : String) (b : Bool) : Prop := ∃ C, mg nm = some (.ref C) /\ PySem.W.kitOne K (.ref C) (.type T) = some b
section
variable {X : Cx} {c : Ct} {E : XK} {e : Expr} {P : Program} {w : World} {base : Heap}
end
end Fl
namespace Fl
open PySem L2 PyProof.Rows
theorem aHB : bootBuiltins "ValueError" = some (.type "ValueError") := by rfl
end Fl
namespace L2
open PySem PySem.Spec PyProof.Rows
theorem bZ.got {P : Program} {w : World} {H : Hp} {h : Heap} {a : Addr} {o : HO} (x : bZ P w H h a o) : ∃ u, h.get? a = some u := by
 cases o with
 | lst xs => obtain ⟨_, _, _, _, e⟩ := x; exact ⟨_, e⟩
 | tup xs => obtain ⟨_, _, _, ⟨o, e, _⟩⟩ := x; exact ⟨_, e⟩
 | dK kvs => obtain ⟨_, _, _, _, o, _, _, e, _⟩ := x; exact ⟨_, e⟩
 | dT kvs => obtain ⟨_, _, _, _, o, _, _, e, _⟩ := x; exact ⟨_, e⟩
 | set S n => obtain ⟨o, _, _, _, e, _⟩ := x; exact ⟨_, e⟩
 | ins C dx fs => obtain ⟨_, _, _, e, _⟩ := x; exact ⟨_, e⟩
 | own y => exact x
 | xd fs => obtain ⟨_, ⟨_, _, _, e, _⟩, _⟩ := x; exact ⟨_, e⟩
 | rng lo hi => obtain ⟨_, _, _, e⟩ := x; exact ⟨_, e⟩
 | frz ob u => exact ⟨_, x.1⟩
 | tbl ps => obtain ⟨_, e, _⟩ := x; exact ⟨_, e⟩
 | cod q => obtain ⟨c, o, vs, t, e, ho, _⟩ := x; cases e; exact ⟨_, ho⟩
 | met f y => exact ⟨_, x⟩
 | ext φ => exact x.2.1
theorem HOk.free {P : Program} {w : World} {H : Hp} {h : Heap} {a : Addr} (x : HOk P w H h) (e : h.get? a = none) : H a = none := by
 cases q : H a with
 | none => rfl
 | some u =>
  obtain ⟨o, z⟩ := (x a u q).got
  rw [e] at z; cases z
theorem Inv.laidN {X : Cx} {pins : List (Addr × Obj)} {σ : St} {H : Hp} {s : Shared} {h' : Heap} {a : Addr} {o : HO} {t' : Nat} (I : Inv X pins σ H s) (k : ∀ b u, s.heap.get? b = some u -> h'.get? b = some u) (hp : s.heap.get? a = none) (new : bZ X.prog X.w (upd H a o) h' a o) :
  Inv X pins σ (upd H a o) { s with heap := h', toks := t' } := by
 have hn : H a = none := I.hok.free hp
 refine I.un ⟨fun b u q _ _ _ => k b u q, fun b u q _ _ _ => ⟨u.slots, k b u q⟩, fun b u q n _ => ?_, fun b u q _ => ⟨u, k b u q⟩, fun b xs q => by rw [aQ (bE q hn)]; exact q, fun b u xs q => by rw [aQ (bE q hn)]; exact q, fun b ps q => by rw [aQ (bE q hn)]; exact q⟩ fun b u e => ?_
 ·rw [aQ (fun z => by rw [z, hp] at q; cases q)]; exact n
 ·by_cases hb : b = a
  ·subst hb; rw [a7] at e; cases e; exact new
  ·rw [aQ hb] at e
   exact (I.hok b u e).stay (fun c v _ q => k c v q) (fun c q => by rw [aQ (bE q hn)]; exact q) (fun c xs q => by rw [aQ (bE q hn)]; exact q) fun c xs q => by rw [aQ (bE q hn)]; exact q
structure ErrP (K : Frag) (mg : Str -> Option Value) (x : Str) (W C : Addr) : Prop where
 c : SX.ExcC K W C
 m : mg x = some (.ref C)
 lk : ∃ nm q N bs sn sub ab col dd k0 k1 k2 k3 k5, K.lookup C = some (excClassObj nm q C N bs (.ref W :: SX.g8) true sn sub ab col dd k0 k1 k2 k3 k5 "ValueError.__new__") /\ PySem.W.nsOkIn K N = true /\ PySem.W.nsIn K N "__init__" = some none
 lw : ∃ c0 dd cd sl, K.lookup W = some ⟨c0, dd, .cls cd, sl⟩ /\ PySem.W.nsOkIn K cd.ns = true /\ PySem.W.nsIn K cd.ns "__init__" = some none
def uN (C : Addr) (E : XK) (ta : TA) : TS := fun _ σ H => ta σ H fun vs H1 => vs.length <= 1000 /\ ∀ e, H1 e = none -> E (.ref C) (some e) (upd H1 e (ExO e C none))
theorem aF4 {K : Frag} {h : Heap} {N : Addr} {n : Str} (X : K.In h) (a : PySem.W.nsOkIn K N = true) (b : PySem.W.nsIn K N n = some none) : ∃ m, h.Ns N m /\ m n = none := by
 have := Heap.Ns.of_isNs (PySem.W.isNs_of_in X a)
 exact ⟨_, this, PySem.W.ns_none_of X this b⟩
section
variable {X : Cx} {E : XK} {W C : Addr} {x : Str} {np cpos pos : Pos} {e0 : Expr} {rest : List Expr} {ta : TA}
theorem vM (hc : X.calm = true) (er : ErrP X.K X.mg x W C) (hg : Gl X x) (ha : PA (X.fly E) (e0 :: rest) ta) (hdb : (x == ("__debug__" : Str)) = false := by decide)
  (he : starEach (e0 :: rest) X.env = (false, eval e0 X.env) :: starEach rest X.env := by rfl) (hpl : (backTo cpos (starEach rest X.env)).any (·.1) = false := by rfl) :
  PS (X.fly E) (.Raise (some (.Call (.Name x np) (e0 :: rest) [] cpos)) none pos) (uN C E ta) := by
 intro pins s σ H D I h
 obtain ⟨nm, q, N, bs, sn, sub, ab, col, dd, k0, k1, k2, k3, k5, lk, nok, nno⟩ := er.lk
 obtain ⟨c0, dw, cd, sl, lw, wok, wno⟩ := er.lw
 have core : wpAny (model X.prog X.w) X.A (eval (.Call (.Name x np) (e0 :: rest) [] cpos) X.env) (fun v s1 => ∃ e od vs, v = .ref e /\ s1.heap.get? C = some (excClassObj nm q C N bs (.ref W :: SX.g8) true sn sub ab col dd k0 k1 k2 k3 k5 "ValueError.__new__") /\
   s1.heap.get? e = some { cls := .ref C, dict := od, data := .fields vs } /\ vs[1]? = some .none /\ Fly X E (.ref e) s1) (Fly X E) s := by
  refine wpAny_Call_Name_kw (lH (X := X) I.unwish hg er.m ?_ hdb)
  refine PySem.W.callWith_K (h₀ := X.base) I.ok.mod.kin er.c.kp (thn (ha cpos pins s σ H _ I h) fun us s1 ⟨vs, H1, I1', r, hz, q1⟩ => ⟨I1'.kIn, ?_⟩) he hpl
  have I1 : Inv X pins σ H1 s1 := I1'.unwish
  obtain ⟨hp, g, d, tk, os⟩ := s1
  have hz' : us.length <= sizeLine := by rw [<- r.length, sizeLine_eq]; omega
  have kin : X.K.In hp := I1.kIn
  obtain ⟨mN, hN, hN0⟩ := aF4 kin nok nno
  obtain ⟨mW, hW, hW0⟩ := aF4 kin wok wno
  refine wpAny_call_exc_subT PySem.F.excBase_ValueError (.own (kin _ _ lw) hW hW0 .base) (kin _ _ lk) hN hN0 (fun h' e hm' => ?_) hz'
  obtain ⟨t, het, _, _⟩ := hm'.there
  have I2 : Inv X pins σ (upd H1 e (ExO e C none)) ⟨h', g, d, tk, os⟩ := I1.laidN (t' := tk) hm'.keeps hm'.new (aCA het)
  have q2 := q1 e (I1.hok.free hm'.new)
  have I5 : Inv X [] σ (upd H1 e (ExO e C none)) ⟨h', g, d, tk, os⟩ := I2.pins_of fun p hp => absurd hp (by simp)
  exact ⟨e, none, _, rfl, I2.kIn _ _ lk, het, rfl, e, C, none, σ, _, rfl, I5, ⟨a7, _, none, het, rfl, (fun t z => nomatch z), (fun z => nomatch z)⟩, q2⟩
 show wpAny (model X.prog X.w) X.A (exec (.Raise (some (.Call (.Name x np) (e0 :: rest) [] cpos)) none pos) X.env) _ (Fly X E) s
 rw [arm_exec_Raise]
 first
  | refine wpAny_bind (wpAny_standAt (SX.sU (SX.aD0 W) (I.ok.hd hc) (wpAny_bind (wpAny_mono core (fun v s1 h1 => wpAny_bind (wpAny_standAt (wpAny_pure h1))) fun _ _ z => z))))
  | (simp only [evalOpt, Option.map]; refine wpAny_bind (wpAny_standAt (SX.sU (SX.aD0 W) (I.ok.hd hc) (wpAny_bind (wpAny_mono core (fun v s1 h1 => wpAny_bind (wpAny_standAt (wpAny_pure h1))) fun _ _ z => z)))))
end
def few (i : Int) : Prop := i = 40 \/ i = 60 \/ i = 200 \/ i = 300
theorem aHC {i : Int} (h : few i) : (Str.ofString (toString i)).length <= 10 /\ i.natAbs.log2 < 1920 := by
 rcases h with rfl | rfl | rfl | rfl <;> decide +kernel
theorem iI (x y : Str) : (x ++ y).length = x.length + y.length := by
 show (x.cps ++ y.cps).size = x.cps.size + y.cps.size
 simp
def aJ8 (ta : TE) : TE := fun σ H Q => ta σ H fun x H1 => ∃ i : Int, x = .int i /\ few i /\ ∀ z : Str, Q (.str z) H1
theorem aJ9 {X : Cx} {v : Expr} {ta : TE} {a b : Str} {k1 k2 : Nat} {p1 p2 p3 pos : Pos} (hv : PE X v ta) (ha : a.length <= 1000 := by decide) (hb : b.length <= 1000 := by decide) :
  PE X (.JoinedStr [.Constant (.str a) k1 p1, .FormattedValue v (-1) none p2, .Constant (.str b) k2 p3] pos) (aJ8 ta) := by
 intro pins s σ H Q I h
 have hsz : sizeLine = 16777216 := rfl
 have h0 : (Str.empty).length = 0 := rfl
 refine wpAny_JoinedStr (Joins_cons (thn (wG (X := X) pins s σ H (fun y H1 => y = .str a /\ H1 = H) I ⟨rfl, rfl⟩) fun u s1 ⟨y, H1, I1, r1, e1, e2⟩ => ?_))
 subst e1 e2
 obtain ⟨t1, rfl⟩ := r1
 refine ⟨a, t1, rfl, by rw [iI, h0]; omega, Joins_cons (wpAny_FormattedValue_plain (thn (hv pins s1 σ _ _ I1 h) fun u s2 ⟨y, H2, I2, r2, i, e, hf, q⟩ => ?_))⟩
 subst e
 obtain ⟨t2, rfl⟩ := r2
 obtain ⟨f1, f2⟩ := aHC hf
 refine wpAny_formatField_int f2 ⟨_, _, rfl, by rw [iI, iI, h0]; omega, Joins_cons (thn (wG (X := X) pins _ σ H2 (fun y H1 => y = .str b /\ H1 = H2) (I2.tok _) ⟨rfl, rfl⟩) fun u s3 ⟨y, H3, I3, r3, e1, e2⟩ => ?_)⟩
 subst e1 e2
 obtain ⟨t3, rfl⟩ := r3
 refine ⟨b, t3, rfl, by rw [iI, iI, iI, h0]; omega, Joins_nil ⟨by rw [iI, iI, iI, h0]; omega, ?_⟩⟩
 exact ⟨.str _, _, I3.tok _, ⟨_, rfl⟩, q _⟩
end L2
namespace Fl
open PySem L2 PyProof.Rows
instance (i : Int) : Decidable (few i) := by unfold few; infer_instance
def aHD (cn : Str) (f : Sg -> R (List PyData)) : Sg -> R Fw := fun ρ => (f ρ).bind fun xs => if xs.length <= 1000 then .ex ⟨cn, []⟩ else .bad
def uO (cn : Str) (g : Sg -> R PyData) : Sg -> R Fw := fun ρ => (g ρ).bind fun x => match x with
 | .int i => if few i then .ex ⟨cn, []⟩ else .bad
 | _ => .bad
section
variable {X : Cx} {c : Ct} {E : XK} {st : Stmt} {cn : Str} {C : Addr}
theorem vM {f : Sg -> R (List PyData)} (hm : c.mg cn = some (.ref C)) (h : PS X st (uN C E (tAd c E f))) : PSf X c E st (aHD cn f) := PS.imp h fun D σ H ⟨ρ, F, ab, k⟩ => by
 refine ⟨ρ, F, ab, (Rk.bind k).imp fun xs _ q vs F1 H1 s1 r1 => ?_⟩
 by_cases hn : xs.length <= 1000
 ·rw [if_pos hn] at q
  exact ⟨by rw [r1.length]; exact hn, fun e he => q e C _ _ ((ab.all.trans s1).trans (Ext.new s1.fh he)) ⟨hm, none, a7, .inl ⟨rfl, rfl⟩⟩⟩
 ·rw [if_neg hn] at q; exact q.elim
theorem aC3 {g : Sg -> R PyData} (hm : c.mg cn = some (.ref C)) (h : PS X st (uN C E (gW (aJ8 (tV (bO c) c E g)) lR))) : PSf X c E st (uO cn g) := PS.imp h fun D σ H ⟨ρ, F, ab, k⟩ => by
 refine ⟨ρ, F, ab, (Rk.bind k).imp fun x hx q v F1 H1 s1 r1 => ?_⟩
 clear hx
 split at q
 ·rename_i i
  split at q
  ·rename_i hf
   obtain rfl := bA.int_of r1
   exact ⟨i, rfl, hf, fun z => ⟨by show 1 <= 1000; decide, fun e he => q e C _ _ ((ab.all.trans s1).trans (Ext.new s1.fh he)) ⟨hm, none, a7, .inl ⟨rfl, rfl⟩⟩⟩⟩
  ·exact q.elim
 ·exact q.elim
theorem aNO {i : Nat} {ρ : Sg} {σ : L2.St} {F H : Hp} {er : Er} {nm : Str} {W C : Addr} (hM : X.mg = c.mg) (hc : SX.ExcC X.K W C) (hm : X.mg nm = some (.ref C)) (ab : Ab c ρ σ F H) (hi : ρ[i]? = some (some (.x er))) (h : er.c = nm) :
  ∃ a, σ[i]? = some (some (.ref a)) /\ TyX X.K H (.ref a) (.ref C) := by
 obtain ⟨v, hv, a, C2, rfl, m, od, h1, h2⟩ := ab.slot i _ hi
 rw [h, <- hM, hm] at m
 cases m
 rcases h2 with ⟨_, rfl⟩ | ⟨dd, fvs, e1, e2, e3, e4⟩
 ·exact ⟨a, hv, .exc0 hc (ab.fh _ _ h1)⟩
 ·subst e1
  exact ⟨a, hv, .exc hc (ab.fh _ _ h1) (ab.fh _ _ e2)⟩
end
end Fl
namespace L2
open PySem
def aKA (e : DictEntry) : Bool := match e.key with
 | .str _ _ => true
 | _ => false
theorem zR {K : Frag} {N : Addr} {cl : Value} {d : Option Addr} {es : Array DictEntry} {ep : Nat} {sl : Array (Option Value)} (l : K.lookup N = some ⟨cl, d, .dict es ep, sl⟩) (h : es.toList.all aKA = true) : PySem.W.nsOkIn K N = true := by
 unfold PySem.W.nsOkIn
 rw [show List.lookup N K = some ⟨cl, d, .dict es ep, sl⟩ from l]
 show es.all _ = true
 rw [<- Array.all_toList]
 exact h
end L2
namespace Fl
open PySem L2 PyProof.Rows
end Fl
namespace HT
open PySem PySem.Spec PyProof.Rows L2
end HT
namespace Fl
open PySem L2 PyProof.Rows
def FnK (K : Frag) (H : Hp) (f : Addr) : Prop := PySem.W.keepIn K (.ref f) = true \/ ∃ oc od fd sl, H f = some (FnO f ⟨oc, od, .func fd, sl⟩)
def xH (X : Cx) (i : Nat) (E : XK) (t : TA) : TE := fun σ H Q => ∃ f, σ[i]? = some (some (.ref f)) /\ FnK X.K H f /\ t σ H fun vs H1 => FnK X.K H1 f /\ ∃ k fd ps sp, Room k X.A /\ FnOk X.prog X.w X.K X.mg X.base (CXe X.prog X.w) k f fd ps sp /\ iE X.K fd ps [] /\ sp vs H1 Q E
theorem xI {X : Cx} {i : Nat} {x : Str} {E : XK} {p pos : Pos} {e : Expr} {es : List Expr} {t : TA} (hn : PE X (.Name x p) (jN i)) (hx : lS (CXe X.prog X.w) X E) (ha : PA X (e :: es) t)
  (he : starEach (e :: es) X.env = (false, eval e X.env) :: starEach es X.env := by rfl) (hpl : (backTo pos (starEach es X.env)).any (·.1) = false := by rfl) : PE X (.Call (.Name x p) (e :: es) [] pos) (xH X i E t) := by
 intro pins s σ H Q I h
 obtain ⟨f, hf, hk, h⟩ := h
 refine wpAny_Call_Name_kw (thn (hn pins s σ H (fun v H' => v = .ref f /\ H' = H) I ⟨_, hf, rfl, rfl⟩) fun u s0 ⟨v, H0, I0, rv, e1, e2⟩ => ?_)
 subst e1 e2
 obtain rfl : u = Value.ref f := rv
 have fin : ∀ (us : List Value) (s1 : Shared), AP X pins σ (fun vs H1 => FnK X.K H1 f /\ ∃ k fd ps sp, Room k X.A /\ FnOk X.prog X.w X.K X.mg X.base (CXe X.prog X.w) k f fd ps sp /\ iE X.K fd ps [] /\ sp vs H1 Q E) us s1 ->
   (∃ H1, Inv X pins σ H1 s1 /\ FnK X.K H1 f) /\ wpAny (model X.prog X.w) X.A (call (.ref f) us) (EP X pins σ Q) X.xe s1 := by
  rintro us s1 ⟨vs, H1, I1, r, hk1, k, fd, ps, sp, hr, F, hb, q⟩
  refine ⟨⟨H1, I1, hk1⟩, aB3 (dvs := []) (ds := []) F hr hb .nil hx I1 r ?_⟩
  rw [List.append_nil]; exact q
 rcases hk with hk | ⟨oc, od, fd, sl, hk⟩
 ·refine PySem.W.callWith_K (h₀ := X.base) I0.ok.mod.kin hk (thn (ha pos pins s0 σ H0 _ I0 h) fun us s1 hq => ?_) he hpl
  obtain ⟨⟨H1, I1, _⟩, q⟩ := fin us s1 hq
  exact ⟨I1.kIn, q⟩
 ·refine PySem.W.callWith_F ⟨oc, od, fd, sl, FnO.get I0.hok hk⟩ (thn (ha pos pins s0 σ H0 _ I0 h) fun us s1 hq => ?_) he hpl
  obtain ⟨⟨H1, I1, hk1⟩, q⟩ := fin us s1 hq
  refine ⟨?_, q⟩
  rcases hk1 with hk1 | ⟨oc, od, fd, sl, hk1⟩
  ·cases e : X.K.lookup f with
   | none => unfold PySem.W.keepIn at hk1; dsimp only at hk1; rw [e] at hk1; cases hk1
   | some o =>
    have e1 := I1.kIn f o e
    exfalso
    have e2 := I0.kIn f o e
    obtain ⟨o', h1, h2⟩ : ∃ o', H0 f = some (FnO f o') /\ True := ⟨_, hk, trivial⟩
    have e3 := I0.bs f o (I0.ok.mod.kin f o e)
    rw [e3.2] at h1; cases h1
  ·exact ⟨oc, od, fd, sl, FnO.get I1.hok hk1⟩
def xJ (m i : Nat) (f : Sg -> R (List PyData)) : Sg -> R PyData := fun ρ => match ρ[i]? with
 | some (some (.g k n G)) => (f ρ).bind fun ds => if k <= m /\ ds.length = n then G ds else .bad
 | _ => .bad
theorem aKB {X : Cx} {c : Ct} {E : XK} {e : Expr} {m i : Nat} {T : Hp} {f : Sg -> R (List PyData)} (hG : c.g = gOf X.prog X.w X.K X.mg X.base T) (hK : X.K = c.K) (hM : X.mg = c.mg) (hr : Room m X.A) (h : PE X e (xH X i E (tAd c E f))) : PD X c E e (xJ m i f) := PE.imp h fun σ H Q ⟨ρ, F, ab, k⟩ => by
 unfold xJ at k
 split at k
 ·rename_i lv n G hi
  obtain ⟨v, hv, hA⟩ := ab.slot i _ hi
  obtain ⟨fa, F1, rfl, s1, B⟩ := (show AF c.g c.K c.mg F (.g lv n G) v from hA)
  rw [hG] at B
  obtain ⟨fd, ps, hps, hb, FO, hk⟩ := (show Beh X.prog X.w X.K X.mg X.base T fa F1 lv n G from B)
  have hk1 : ∀ F' H', aK F F' -> aK F' H' -> FnK X.K H' fa := fun F' H' a1 a2 => hk.imp id fun ⟨oc, od, fd, sl, e⟩ => ⟨oc, od, fd, sl, a2 _ _ (a1 _ _ (s1 _ _ e))⟩
  refine ⟨fa, hv, hk1 F H (bY F) ab.fh, ρ, F, ab, (Rk.bind k).imp fun ds _ q vs F' H' e1 r => ?_⟩
  refine ⟨hk1 F' H' e1.ff e1.fh, ?_⟩
  by_cases hn : lv <= m /\ ds.length = n
  ·rw [if_pos hn] at q
   refine ⟨lv, fd, ps, _, hr.mono hn.1, FO, hb, F', ds, fun a o z => e1.ff a o (s1 a o z), fun a o z => e1.ff a o (ab.f0 a o (ab.t0 a o (by rw [hG]; exact z))), e1.fh, by rw [hK]; exact r, hn.2, ?_⟩
   cases hg : G ds with
   | bad => rw [hg] at q; exact q
   | ok d => rw [hg] at q; exact fun v F2 H2 e2 r2 => Rk.ok q v F2 H2 (e1.trans e2) (by rw [hK] at r2; exact r2)
   | ex x => rw [hg] at q; exact fun a C F2 H2 e2 r2 => q a C F2 H2 ((ab.all.trans e1).trans e2) (by rw [hK, hM] at r2; exact r2)
  ·rw [if_neg hn] at q; exact q.elim
 ·exact k.elim
def qM : PyData -> Bool
 | .none => true
 | .bool _ => true
 | .int _ => true
 | .str _ => true
 | _ => false
theorem aEU {K : Frag} {F F' : Hp} {v : V} {d : PyData} (h : qM d = true) (r : DatV K F v d) : DatV K F' v d := by
 cases d with
 | none => cases r; exact .non
 | bool b => cases r; exact .bl b
 | int i => cases r; exact .int i
 | str x => cases r; exact .str x
 | list xs => cases h
 | tuple xs => cases h
 | dict xs => cases h
def oA (K : Frag) (F H : Hp) : List V -> List PyData -> Prop
 | [], [] => True
 | v :: vs, d :: ds => bA K F H v d /\ oA K F H vs ds
 | _, _ => False
theorem oA.ext {K : Frag} {F H F' H' : Hp} (e : Ext F H F' H') : ∀ {vs : List V} {ds : List PyData}, oA K F H vs ds -> oA K F' H' vs ds
 | [], [], _ => trivial
 | v :: vs, d :: ds, h => ⟨bA.ext e h.1, oA.ext e h.2⟩
def tAr (c : Ct) (E : XK) (f : Sg -> R (List PyData)) : TA := fun σ H Q => ∃ ρ F, Ab c ρ σ F H /\ Rk c E F H (f ρ) fun ds => ∀ vs F' H', Ext F H F' H' -> oA c.K F' H' vs ds -> Q vs H'
theorem aHE {X : Cx} {c : Ct} {E : XK} : PA X [] (tAr c E aG) := PA.imp aS fun σ H Q ⟨ρ, F, ab, k⟩ => Rk.ok k [] F H (Ext.refl ab.fh) trivial
theorem xK {X : Cx} {c : Ct} {E : XK} {e : Expr} {es : List Expr} {f : Sg -> R PyData} {g : Sg -> R (List PyData)} (h : PR X c E e f) (h2 : PA X es (tAr c E g)) (hs : starEach (e :: es) X.env = (false, eval e X.env) :: starEach es X.env := by rfl) : PA X (e :: es) (tAr c E (aA f g)) := PA.imp (aI h h2 hs) fun σ H Q ⟨ρ, F, ab, k⟩ => by
 refine ⟨ρ, F, ab, (Rk.bind k).imp fun x _ q v F1 H1 s1 r1 => ⟨ρ, F1, ab.ext s1, ((Rk.bind q).ext s1).imp fun xs _ q vs F2 H2 s2 r2 => ?_⟩⟩
 exact Rk.ok q (v :: vs) F2 H2 (s1.trans s2) ⟨bA.ext s2 r1, r2⟩
theorem aKC {K : Frag} {F H : Hp} (s : aK F H) : ∀ {vs : List V} {ds : List PyData}, oA K F H vs ds -> ∃ FL, aK F FL /\ aK FL H /\ DatVs K FL vs ds
 | [], [], _ => ⟨F, bY F, s, .nil⟩
 | v :: vs, d :: ds, h => by
  obtain ⟨FL, a, b, r⟩ := aKC s h.2
  rcases h.1 with q | ⟨p, us, xs, rfl, rfl, h1, h2⟩
  ·exact ⟨FL, a, b, .cons (q.same a) r⟩
  ·refine ⟨fun x => if x = p then some (.lst us) else FL x, fun x o z => ?_, fun x o z => ?_, ?_⟩
   ·by_cases hx : x = p
    ·subst hx
     have := s x o z
     rw [h1] at this; cases this
     exact if_pos rfl
    ·exact (if_neg hx).trans (a x o z)
   ·by_cases hx : x = p
    ·subst hx
     have z' := (if_pos rfl).symm.trans z
     rw [h1]; exact z'
    ·exact b x o ((if_neg hx).symm.trans z)
   ·have sm : aK FL (fun x => if x = p then some (.lst us) else FL x) := fun x o z => by
     by_cases hx : x = p
     ·subst hx
      have := b x o z
      rw [h1] at this; cases this
      exact if_pos rfl
     ·exact (if_neg hx).trans z
    exact .cons (.lst (SqL.of (if_pos rfl)) (h2.same fun x o z => sm x o (a x o z))) (r.same sm)
def tK (m i : Nat) (f : Sg -> R (List PyData)) : Sg -> R PyData := fun ρ => match ρ[i]? with
 | some (some (.g k n G)) => (f ρ).bind fun ds => if k <= m /\ ds.length = n then (match G ds with | .ok d => if qM d = true then .ok d else .bad | _ => .bad) else .bad
 | _ => .bad
theorem aHF {X : Cx} {c : Ct} {E : XK} {e : Expr} {m i : Nat} {T : Hp} {f : Sg -> R (List PyData)} (hG : c.g = gOf X.prog X.w X.K X.mg X.base T) (hK : X.K = c.K) (hM : X.mg = c.mg) (hr : Room m X.A) (h : PE X e (xH X i E (tAr c E f))) : PD X c E e (tK m i f) := PE.imp h fun σ H Q ⟨ρ, F, ab, k⟩ => by
 unfold tK at k
 split at k
 ·rename_i lv n G hi
  obtain ⟨v, hv, hA⟩ := ab.slot i _ hi
  obtain ⟨fa, F1, rfl, s1, B⟩ := (show AF c.g c.K c.mg F (.g lv n G) v from hA)
  rw [hG] at B
  obtain ⟨fd, ps, hps, hb, FO, hk⟩ := (show Beh X.prog X.w X.K X.mg X.base T fa F1 lv n G from B)
  have hk1 : ∀ F' H', aK F F' -> aK F' H' -> FnK X.K H' fa := fun F' H' a1 a2 => hk.imp id fun ⟨oc, od, fd, sl, e⟩ => ⟨oc, od, fd, sl, a2 _ _ (a1 _ _ (s1 _ _ e))⟩
  refine ⟨fa, hv, hk1 F H (bY F) ab.fh, ρ, F, ab, (Rk.bind k).imp fun ds _ q vs F' H' e1 r => ?_⟩
  refine ⟨hk1 F' H' e1.ff e1.fh, ?_⟩
  by_cases hn : lv <= m /\ ds.length = n
  ·rw [if_pos hn] at q
   obtain ⟨FL, a, b, r'⟩ := aKC e1.fh r
   refine ⟨lv, fd, ps, _, hr.mono hn.1, FO, hb, FL, ds, fun x o z => a x o (e1.ff x o (s1 x o z)), fun x o z => a x o (e1.ff x o (ab.f0 x o (ab.t0 x o (by rw [hG]; exact z)))), b, by rw [hK]; exact r', hn.2, ?_⟩
   cases hg : G ds with
   | bad => rw [hg] at q; exact q
   | ok d =>
    rw [hg] at q
    intro v F2 H2 e2 r2
    have q' : Rk c E F H (if qM d = true then R.ok d else .bad) _ := q
    by_cases hf : qM d = true
    ·rw [if_pos hf] at q'
     refine Rk.ok q' v F' H2 (e1.trans ⟨e2.hh, bY F', fun x o z => e2.hh x o (e1.fh x o z), fun x z n => absurd z n⟩) (by rw [hK] at r2; exact aEU hf r2)
    ·rw [if_neg hf] at q'; exact q'.elim
   | ex x => rw [hg] at q; exact q.elim
  ·rw [if_neg hn] at q; exact q.elim
 ·exact k.elim
end Fl
namespace Fl
open PySem L2 PyProof.Rows
theorem aHG {K : Frag} {F : Hp} {cs : List Addr} {a : Addr} {xs : List V} (hc : Celd cs F) (h : SqL K F a xs) : SqL K (hid cs F) a xs := by
 rcases h with (h | ⟨o, h⟩) | h
 · exact .inl (.inl (by rw [bM (hc.out h fun _ v z => nomatch z)]; exact h))
 · exact .inl (.inr ⟨o, by rw [bM (hc.out h fun _ v z => by unfold dY at z; cases z)]; exact h⟩)
 · exact .inr h
theorem aHH {K : Frag} {F : Hp} {cs : List Addr} {a : Addr} {xs : List V} (hc : Celd cs F) (h : SqT K F a xs) : SqT K (hid cs F) a xs := by
 rcases h with (h | ⟨o, h⟩) | h
 · exact .inl (.inl (by rw [bM (hc.out h fun _ v z => nomatch z)]; exact h))
 · exact .inl (.inr ⟨o, by rw [bM (hc.out h fun _ v z => by unfold dY at z; cases z)]; exact h⟩)
 · exact .inr h
mutual
theorem zS {K : Frag} {F : Hp} {cs : List Addr} (hc : Celd cs F) : ∀ {v : V} {d : PyData}, DatV K F v d -> DatV K (hid cs F) v d
 | _, _, .non => .non
 | _, _, .bl b => .bl b
 | _, _, .int i => .int i
 | _, _, .str x => .str x
 | _, _, .lst h r => .lst (aHG hc h) (lZ hc r)
 | _, _, .tup h r => .tup (aHH hc h) (lZ hc r)
theorem lZ {K : Frag} {F : Hp} {cs : List Addr} (hc : Celd cs F) : ∀ {vs : List V} {ds : List PyData}, DatVs K F vs ds -> DatVs K (hid cs F) vs ds
 | _, _, .nil => .nil
 | _, _, .cons h r => .cons (zS hc h) (lZ hc r)
end
theorem aHI {e C b : Addr} {od : Option Addr} {o : Obj} {v : V} (h : ExO e C od = dY b o v) : False := by unfold ExO dY at h; cases h
theorem aEV {K : Frag} {mg : Str -> Option Value} {F : Hp} {e : Er} {a C : Addr} {cs : List Addr} (hc : Celd cs F) (h : j6 K mg F e a C) : j6 K mg (hid cs F) e a C /\ a ∉ cs := by
 obtain ⟨m, od, h1, h2⟩ := h
 have ha := hc.out h1 fun _ v z => aHI z
 refine ⟨⟨m, od, by rw [bM ha]; exact h1, h2.imp id ?_⟩, ha⟩
 rintro ⟨d, fvs, e1, e2, e3, e4⟩
 exact ⟨d, fvs, e1, by rw [bM (hc.out e2 fun _ v z => nomatch z)]; exact e2, e3, lZ hc e4⟩
theorem xL {cv : Cv} {H F2 : Hp} (s : aK (pub cv H) F2) : Celd (cV cv) F2 := fun b hb => by
 obtain ⟨p, e⟩ := gQ.mp hb
 exact ⟨p.1, p.2, s _ _ (pA e)⟩
theorem aEW {cv : Cv} {F H : Hp} (s : aK F H) : aK (pub cv F) (pub cv H) := fun b o e => by
 by_cases hb : b ∈ cV cv
 ·obtain ⟨p, q⟩ := gQ.mp hb
  rw [pA q] at e ⊢; exact e
 ·rw [dZ hb] at e ⊢; exact s b o e
theorem vN {cv : Cv} {F H F2 H2 : Hp} (hd : ∀ b ∈ cV cv, H b = none) (s : aK F H) (e : Ext (pub cv F) (pub cv H) F2 H2) : Ext F H (hid (cV cv) F2) (hid (cV cv) H2) := by
 have hF : ∀ b ∈ cV cv, F b = none := fun b hb => cB s (hd b hb)
 have outH : ∀ b o, H b = some o -> b ∉ cV cv := fun b o q z => by rw [hd b z] at q; cases q
 have outF : ∀ b o, F b = some o -> b ∉ cV cv := fun b o q z => by rw [hF b z] at q; cases q
 refine ⟨fun b o q => ?_, fun b o q => ?_, fun b o q => ?_, fun b q n => ?_⟩
 ·have hb := outH b o q
  rw [bM hb]; exact e.hh b o (by rw [dZ hb]; exact q)
 ·have hb := outF b o q
  rw [bM hb]; exact e.ff b o (by rw [dZ hb]; exact q)
 ·obtain ⟨q1, hb⟩ := nX q
  rw [bM hb]; exact e.fh b o q1
 ·by_cases hb : b ∈ cV cv
  ·exact absurd (m7 hb) n
  ·rw [bM hb] at n
   have := e.nw b (by rw [dZ hb]; exact q) n
   unfold mG at this ⊢
   rw [dZ hb] at this; exact this
def dOf : R A -> R PyData
 | .ok (.d x) => .ok x
 | .ok _ => .bad
 | .ex e => .ex e
 | .bad => .bad
def CloOk (P : Program) (w : World) (K : Frag) (mg : Str -> Option Value) (base : Heap) (T : Hp) (S : ClSt) (fr : List Str) (k n : Nat) (Gm : List A -> List PyData -> R PyData) : Prop :=
 ∀ (F0 F1 : Hp) (caps : List A) (cvs : List V) (f : Addr) (cl : List (Str × Addr)) (doc pm ct : Value) (cc : Addr), aK T F0 -> AFs (gOf P w K mg base T) K mg F0 caps cvs -> aK F0 F1 ->
  F1 f = some (FnO f (S.obj cl doc pm cc ct)) -> F1 cc = some (.cod S.qual) -> CapAt F1 fr cl cvs -> (∀ c ∈ aX fr cl, F0 c = none) -> Beh P w K mg base T f F1 k n (Gm caps)
theorem zT {cs : List Addr} {F H F2 H2 : Hp} (s : aK F H) (hc : Celd cs F) (hn : ∀ c ∈ cs, H2 c = none) (e : Ext (hid cs F) (hid cs H) F2 H2) : Ext F H (shw cs F F2) (shw cs H H2) /\ aK F2 (shw cs F F2) := by
 have hF : ∀ c ∈ cs, F2 c = none := fun c h => cB e.fh (hn c h)
 refine ⟨⟨fun b o q => ?_, fun b o q => ?_, fun b o q => ?_, fun b q n => ?_⟩, fun b o q => ?_⟩
 ·by_cases hb : b ∈ cs
  ·rw [o9 hb]; exact q
  ·rw [dX hb]; exact e.hh b o (by rw [bM hb]; exact q)
 ·by_cases hb : b ∈ cs
  ·rw [o9 hb]; exact q
  ·rw [dX hb]; exact e.ff b o (by rw [bM hb]; exact q)
 ·by_cases hb : b ∈ cs
  ·rw [o9 hb] at q ⊢; exact s b o q
  ·rw [dX hb] at q ⊢; exact e.fh b o q
 ·by_cases hb : b ∈ cs
  ·obtain ⟨o, v, z⟩ := hc b hb
   rw [z] at q; cases q
  ·rw [dX hb] at n
   have := e.nw b (by rw [bM hb]; exact q) n
   unfold mG at this ⊢
   rw [bM hb] at this; exact this
 ·rw [dX fun z => by rw [hF b z] at q; cases q]; exact q
theorem AFs.data {g : Gb} {K : Frag} {mg : Str -> Option Value} {F : Hp} : ∀ {vs : List V} {ds : List PyData}, DatVs K F vs ds -> AFs g K mg F (ds.map .d) vs
 | _, _, .nil => trivial
 | _, _, .cons h r => ⟨h, AFs.data r⟩
theorem AFs.append {g : Gb} {K : Frag} {mg : Str -> Option Value} {F : Hp} : ∀ {as bs : List A} {vs us : List V}, AFs g K mg F as vs -> AFs g K mg F bs us -> AFs g K mg F (as ++ bs) (vs ++ us)
 | [], _, [], _, _, h => h
 | a :: as, bs, v :: vs, us, h, h2 => ⟨h.1, AFs.append h.2 h2⟩
section
variable {P : Program} {w : World} {K : Frag} {mg : Str -> Option Value} {base : Heap} {T : Hp} {S : ClSt} {N ps fr : List Str} {k : Nat}
theorem vO {F0 F1 F H : Hp} {caps : List A} {cvs vs : List V} {ds : List PyData} {cl : List (Str × Addr)} (hT0 : aK T F0) (hcap : AFs (gOf P w K mg base T) K mg F0 caps cvs) (h01 : aK F0 F1) (h1F : aK F1 F) (hFH : aK F H) (C : CapAt F1 fr cl cvs) (hno : ∀ c ∈ aX fr cl, F0 c = none) (hd : DatVs K F vs ds) :
  Celd (aX fr cl) F /\ aK T (hid (aX fr cl) F) /\ aK (hid (aX fr cl) F) (hid (aX fr cl) H) /\ AFs (gOf P w K mg base T) K mg (hid (aX fr cl) F) (ds.map .d ++ caps) (vs ++ cvs) := by
 have hc : Celd (aX fr cl) F := (C.same h1F).celd
 have h0 : aK F0 (hid (aX fr cl) F) := fun b o q => by
  rw [bM fun z => by rw [hno b z] at q; cases q]; exact h1F b o (h01 b o q)
 refine ⟨hc, fun b o q => h0 b o (hT0 b o q), fun b o q => ?_, (AFs.data (lZ hc hd)).append (hcap.same h0)⟩
 obtain ⟨q1, hb⟩ := nX q
 rw [bM hb]; exact hFH b o q1
def jU (n : Nat) (fb : Sg -> R Fw) : List A -> List PyData -> R PyData := fun caps ds => dOf (fnF n fb (ds.map .d ++ caps))
theorem zU {F H : Hp} {cs : List Addr} {Q : VK} {E : XK} {r : R A} (hFH : aK F H) (hc : Celd cs F) (h : match dOf r with
 | .bad => False
 | .ok d => ∀ v F' H', Ext F H F' H' -> DatV K F' v d -> Q v H'
 | .ex e => ∀ a C F' H', Ext F H F' H' -> j6 K mg F' e a C -> E (.ref C) (some a) H') : match (generalizing := false) r with
 | .bad => False
 | .ok a => ∀ v F' H', Ext (hid cs F) (hid cs H) F' H' -> AF (gOf P w K mg base T) K mg F' a v -> (∀ a ∈ cs, H' a = none) -> Q v (shw cs H H')
 | .ex e => ∀ a C F' H', Ext (hid cs F) (hid cs H) F' H' -> j6 K mg F' e a C -> (∀ a ∈ cs, H' a = none) -> E (.ref C) (some a) (shw cs H H') := by
 cases r with
 | bad => exact h
 | ok a =>
  cases a with
  | d x =>
   intro v F' H' e q hn
   obtain ⟨e2, sm⟩ := zT hFH hc hn e
   exact h v _ _ e2 (DatV.same sm q)
  | l xs => exact False.elim h
  | m xs => exact False.elim h
  | x e => exact False.elim h
  | g k n f => exact False.elim h
  | k S => exact False.elim h
  | f S => exact False.elim h
 | ex x =>
  intro a C F' H' e q hn
  obtain ⟨e2, sm⟩ := zT hFH hc hn e
  exact h a C _ _ e2 (q.same sm)
theorem aKD {body : List Stmt} {fb : Sg -> R Fw} (hb : S.body = .stmts body) (Sc : CloScope N ps fr S.scope) (hbi : ∀ (cl : List (Str × Addr)) (doc pm : Value) (cc : Addr) (ct : Value) (us : List Value), us.length = ps.length -> bindArgs (S.fd cl doc pm cc ct) ⟨us, []⟩ = pure (ps.zip us))
  (hbody : ∀ (f cc : Addr) (cl : List (Str × Addr)) (A : Around) (outer : List Env) (s : Shared) (H F : Hp) (E E' : XK), Room k (A.deeper (cE S.qual S.scope s.heap.objs.size f (.ref cc) cl)) ->
   kW ((iF (CXe P w) P w K mg base N fr S.qual S.scope f (.ref cc) cl A outer s H E').fly E) ⟨K, mg, w, F, hid (aX fr cl) H, gOf P w K mg base T, (cE S.qual S.scope s.heap.objs.size f (.ref cc) cl).cells, fun _ => none⟩ E body fb) :
  CloOk P w K mg base T S fr (k + 1) ps.length (jU N.length fb) := by
 intro F0 F1 caps cvs f cl doc pm ct cc hT0 hcap h01 hf hcc C hno
 refine ⟨S.fd cl doc pm cc ct, ps, rfl, .all (hbi cl doc pm cc ct), ⟨fun vs H Q E h => ?_, fun A outer s H args us vs Q E hr e0 hbn rv hsp => ?_⟩, .inr ⟨_, _, _, _, hf⟩⟩
 ·obtain ⟨F, ds, _, _, _, h1, h2, _⟩ := h
  rw [h1.length, h2]
 ·obtain ⟨F, ds, h1, h2, h3, h4, h5, h6⟩ := hsp
  obtain ⟨hc, a1, a2, a3⟩ := vO hT0 hcap h01 h1 h3 C hno h4
  refine aCN hb (h3 _ _ (h1 _ _ hf)) (h3 _ _ (h1 _ _ hcc)) Sc (C.same fun b o z => h3 b o (h1 b o z)) hr e0 hbn rv (by rw [h4.length, h5]) fun hr' => ⟨_, hbody f cc cl A outer s H (hid (aX fr cl) F) _ E hr', ?_⟩
  have h7 := zU (P := P) (w := w) (base := base) (T := T) (r := fnF N.length fb (ds.map .d ++ caps)) h3 hc h6
  refine qI (n := N.length) (fb := fb) (Q := fun v H' => (∀ a ∈ aX fr cl, H' a = none) -> Q v (shw (aX fr cl) H H')) (E := fun c e H' => (∀ a ∈ aX fr cl, H' a = none) -> E c e (shw (aX fr cl) H H')) a1 a2 a3 ?_
  cases e : fnF N.length fb (ds.map .d ++ caps) with
  | bad => rw [e] at h7; exact h7
  | ok a => rw [e] at h7; exact h7
  | ex x => rw [e] at h7; exact h7
theorem aKE {body : Expr} {fe : Sg -> R PyData} (hb : S.body = .expr body) (Sc : CloScope N ps fr S.scope) (hbi : ∀ (cl : List (Str × Addr)) (doc pm : Value) (cc : Addr) (ct : Value) (us : List Value), us.length = ps.length -> bindArgs (S.fd cl doc pm cc ct) ⟨us, []⟩ = pure (ps.zip us))
  (hbody : ∀ (f cc : Addr) (cl : List (Str × Addr)) (A : Around) (outer : List Env) (s : Shared) (H F : Hp) (E E' : XK), Room k (A.deeper (cE S.qual S.scope s.heap.objs.size f (.ref cc) cl)) ->
   PD ((iF (CXe P w) P w K mg base N fr S.qual S.scope f (.ref cc) cl A outer s H E').fly E) ⟨K, mg, w, F, hid (aX fr cl) H, gOf P w K mg base T, (cE S.qual S.scope s.heap.objs.size f (.ref cc) cl).cells, fun _ => none⟩ E body fe) :
  CloOk P w K mg base T S fr (k + 1) ps.length (jU N.length (aY (vD fe))) := by
 intro F0 F1 caps cvs f cl doc pm ct cc hT0 hcap h01 hf hcc C hno
 refine ⟨S.fd cl doc pm cc ct, ps, rfl, .all (hbi cl doc pm cc ct), ⟨fun vs H Q E h => ?_, fun A outer s H args us vs Q E hr e0 hbn rv hsp => ?_⟩, .inr ⟨_, _, _, _, hf⟩⟩
 ·obtain ⟨F, ds, _, _, _, h1, h2, _⟩ := h
  rw [h1.length, h2]
 ·obtain ⟨F, ds, h1, h2, h3, h4, h5, h6⟩ := hsp
  obtain ⟨hc, a1, a2, a3⟩ := vO hT0 hcap h01 h1 h3 C hno h4
  refine aD9 hb (h3 _ _ (h1 _ _ hf)) (h3 _ _ (h1 _ _ hcc)) Sc (C.same fun b o z => h3 b o (h1 b o z)) hr e0 hbn rv (by rw [h4.length, h5]) fun hr' => ⟨_, hbody f cc cl A outer s H (hid (aX fr cl) F) _ E hr', ?_⟩
  have h7 := zU (P := P) (w := w) (base := base) (T := T) (r := fnF N.length (aY (vD fe)) (ds.map .d ++ caps)) h3 hc h6
  refine ⟨_, _, xB a1 a2 a3, ?_⟩
  unfold fnF aY vD at h7
  cases e : fe ((ds.map Fl.A.d ++ caps).map some ++ List.replicate (N.length - (ds.map Fl.A.d ++ caps).length) none) with
  | bad => rw [e] at h7; exact h7
  | ok d => rw [e] at h7; exact fun v F' H' e1 r1 hn => h7 v F' H' e1 r1 hn
  | ex x => rw [e] at h7; exact fun a C F' H' e1 r1 hn => h7 a C F' H' e1 r1 hn
end
end Fl
namespace Fl
open PySem L2 PyProof.Rows
def oC (c : Ct) (F : Hp) (S : ClSt) (v : V) : Prop := ∃ f cl doc pm cc ct, v = .ref f /\ F f = some (FnO f (S.obj cl doc pm cc ct)) /\ F cc = some (.cod S.qual) /\ ClOf c.cells S.scope cl
theorem oC.same {c : Ct} {F F' : Hp} {S : ClSt} {v : V} (s : aK F F') : oC c F S v -> oC c F' S v := fun ⟨f, cl, doc, pm, cc, ct, h1, h2, h3, h4⟩ => ⟨f, cl, doc, pm, cc, ct, h1, s _ _ h2, s _ _ h3, h4⟩
theorem zV {c : Ct} {S : ClSt} {P0 : Addr} {qs : List (Pos × Str)} {cells : List (Str × Addr)} {ρ : Sg} {σ : L2.St} {F H : Hp} {Q : VK} (hcl : cells = c.cells) (hT : c.g.T P0 = some (.tbl qs)) (ab : Ab c ρ σ F H) (h : ∀ v F' H', Ext F H F' H' -> oC c F' S v -> Q v H') : tMk cells S P0 qs σ H Q := by
 subst hcl
 refine ⟨ab.fh _ _ (ab.f0 _ _ (ab.t0 _ _ hT)), fun f cc cl doc pm ct H1 hm hn hco => ?_⟩
 have e1 : ∃ F1, Ext F H F1 H1 /\ F1 cc = some (.cod S.qual) := by
  rcases hm with ⟨q, rfl⟩ | ⟨q, rfl⟩
  ·refine ⟨upd F cc (.cod S.qual), ⟨bY _, fun a o z => ?_, fun a o z => ?_, fun a z n => ?_⟩, a7⟩
   ·by_cases w : a = cc
    ·subst w
     have := ab.fh a o z
     rw [q] at this; cases this
     exact a7
    ·rw [aQ w]; exact z
   ·by_cases w : a = cc
    ·subst w; rw [a7] at z; rw [q]; exact z
    ·rw [aQ w] at z; exact ab.fh a o z
   ·by_cases w : a = cc
    ·subst w; exact .inr ⟨_, q⟩
    ·rw [aQ w] at n; exact absurd z n
  ·exact ⟨upd F cc (.cod S.qual), Ext.new ab.fh q, a7⟩
 obtain ⟨F1, e1, hc1⟩ := e1
 have e2 : Ext F1 H1 (upd F1 f (FnO f (S.obj cl doc pm cc ct))) (upd H1 f (FnO f (S.obj cl doc pm cc ct))) := Ext.new e1.fh hn
 exact h (.ref f) _ _ (e1.trans e2) ⟨f, cl, doc, pm, cc, ct, rfl, a7, e2.ff _ _ hc1, hco⟩
def wD (i : Nat) (q : Str) : Sg -> R Fw := fun ρ => .ok (.nx (ρ.set i (some (.k q))))
theorem aHJ {X : Cx} {c : Ct} {E : XK} {st : Stmt} {i : Nat} {q : Str} {S : ClSt} {P0 : Addr} {qs : List (Pos × Str)} {cells : List (Str × Addr)} (hcl : cells = c.cells) (hS : c.cls q = some S) (hT : c.g.T P0 = some (.tbl qs)) (h : PS X st (kU (tMk cells S P0 qs) (jO i))) : PSf X c E st (wD i q) := PS.imp h fun D σ H ⟨ρ, F, ab, k⟩ => by
 refine zV hcl hT ab fun v F' H' e hc => ?_
 exact Rk.ok k _ F' H' e.ff ((ab.ext e).setF (a := .k q) (let ⟨f, cl, doc, pm, cc, ct, h⟩ := hc; ⟨S, f, cl, doc, pm, cc, ct, hS, h⟩) fun z => nomatch z)
def tL : Option (Option A) -> Option A
 | some (some (.d x)) => some (.d x)
 | some (some (.x e)) => some (.x e)
 | some (some (.g k n G)) => some (.g k n G)
 | _ => none
def gO : List Nat -> Sg -> Option (List A)
 | [], _ => some []
 | j :: js, ρ => match tL ρ[j]?, gO js ρ with
  | some a, some as => some (a :: as)
  | _, _ => none
theorem tM {o : Option (Option A)} {a : A} (h : tL o = some a) : o = some (some a) /\ ∀ {c : Ct} {F H : Hp} {v : V}, AO c F H a v -> AF c.g c.K c.mg F a v := by
 unfold tL at h
 split at h <;> cases h
 · exact ⟨rfl, fun z => z⟩
 · exact ⟨rfl, fun z => z⟩
 · exact ⟨rfl, fun z => z⟩
theorem zW {c : Ct} {ρ : Sg} {σ : L2.St} {F H : Hp} (ab : Ab c ρ σ F H) : ∀ {js : List Nat} {caps : List A}, gO js ρ = some caps -> ∃ cvs, AFs c.g c.K c.mg F caps cvs /\ cvs.length = js.length /\ ∀ (i : Nat) j, js[i]? = some j -> ∃ v, cvs[i]? = some v /\ σ[j]? = some (some v)
 | [], _, h => by cases h; exact ⟨[], trivial, rfl, fun i j z => by simp at z⟩
 | j :: js, caps, h => by
  unfold gO at h
  split at h
  ·rename_i a as h1 h2
   cases h
   obtain ⟨cvs, r, l, g⟩ := zW ab h2
   obtain ⟨q1, q2⟩ := tM h1
   obtain ⟨v, hv, hA⟩ := ab.slot j a q1
   refine ⟨v :: cvs, ⟨q2 hA, r⟩, by simp [l], fun i j' e => ?_⟩
   cases i with
   | zero => simp at e; subst e; exact ⟨v, rfl, hv⟩
   | succ i => obtain ⟨v', a1, a2⟩ := g i j' (by simpa using e); exact ⟨v', by simpa using a1, a2⟩
  ·cases h
def xM (X : Cx) (T : Hp) (c : Ct) (js : List Nat) (ρ : Sg) (F : Hp) (a : A) (v : V) : Prop := AF c.g c.K c.mg F a v \/
 ∃ S fr sl k n Gm caps, a = .g k n (Gm caps) /\ oC c F S v /\ CloOk X.prog X.w X.K X.mg X.base T S fr k n Gm /\ (∀ y, (y, NameKind.free) ∈ S.scope.names -> y ∈ fr) /\ (∀ y ∈ fr, (y, NameKind.free) ∈ S.scope.names) /\ sl.map (fun j => X.N[j]?) = fr.map some /\ (∀ j ∈ sl, j ∈ js) /\ gO sl ρ = some caps
theorem xM.same {X : Cx} {T : Hp} {c : Ct} {js : List Nat} {ρ : Sg} {F F' : Hp} {a : A} {v : V} (s : aK F F') (h : xM X T c js ρ F a v) : xM X T c js ρ F' a v := by
 rcases h with h | ⟨S, fr, sl, k, n, Gm, caps, h1, h2, h3⟩
 · exact .inl (AF.same s h)
 · exact .inr ⟨S, fr, sl, k, n, Gm, caps, h1, h2.same s, h3⟩
def aBH (X : Cx) (T : Hp) (c : Ct) (js : List Nat) (ρ : Sg) (F : Hp) : List A -> List V -> Prop
 | [], [] => True
 | a :: as, v :: vs => xM X T c js ρ F a v /\ aBH X T c js ρ F as vs
 | _, _ => False
def tK1 (X : Cx) (T : Hp) (c : Ct) (js : List Nat) (E : XK) (f : Sg -> R A) : TE := fun σ H Q => ∃ ρ F, Ab c ρ σ F H /\ Rk c E F H (f ρ) fun a => ∀ v F' H', Ext F H F' H' -> xM X T c js ρ F' a v -> Q v H'
def tKs (X : Cx) (T : Hp) (c : Ct) (js : List Nat) (E : XK) (f : Sg -> R (List A)) : TA := fun σ H Q => ∃ ρ F, Ab c ρ σ F H /\ Rk c E F H (f ρ) fun as => ∀ vs F' H', Ext F H F' H' -> aBH X T c js ρ F' as vs -> Q vs H'
section
variable {X : Cx} {T : Hp} {c : Ct} {js : List Nat} {E : XK} {e : Expr} {es : List Expr}
theorem aME {f : Sg -> R A} (h : PV X c E e f) : PE X e (tK1 X T c js E f) := PE.imp h fun σ H Q ⟨ρ, F, ab, k⟩ => ⟨ρ, F, ab, k.imp fun a _ q v F' H' e1 r => q v F' H' e1 (.inl r)⟩
def tN (q : Str) (sl : List Nat) (k n : Nat) (Gm : List A -> List PyData -> R PyData) (i : Nat) : Sg -> R A := fun ρ => match ρ[i]?, gO sl ρ with
 | some (some (.k q')), some caps => if q' = q then .ok (.g k n (Gm caps)) else .bad
 | _, _ => .bad
theorem aHK {q : Str} {S : ClSt} {fr : List Str} {sl : List Nat} {k n i : Nat} {Gm : List A -> List PyData -> R PyData} (hS : c.cls q = some S) (M : CloOk X.prog X.w X.K X.mg X.base T S fr k n Gm) (h1 : ∀ y, (y, NameKind.free) ∈ S.scope.names -> y ∈ fr) (h2 : ∀ y ∈ fr, (y, NameKind.free) ∈ S.scope.names)
  (h3 : sl.map (fun j => X.N[j]?) = fr.map some) (h4 : ∀ j ∈ sl, j ∈ js) (h : PE X e (jN i)) : PE X e (tK1 X T c js E (tN q sl k n Gm i)) := PE.imp h fun σ H Q ⟨ρ, F, ab, k⟩ => by
 unfold tN at k
 split at k
 ·rename_i q' caps hi hc
  by_cases hq : q' = q
  ·rw [if_pos hq] at k
   subst hq
   obtain ⟨v, hv, S', f, cl, doc, pm, cc, ct, h0, hA⟩ := ab.slot i _ hi
   rw [hS] at h0; cases h0
   have hA : oC c F S v := ⟨f, cl, doc, pm, cc, ct, hA⟩
   exact ⟨v, hv, Rk.ok k v F H (Ext.refl ab.fh) (.inr ⟨_, fr, sl, _, _, Gm, caps, rfl, hA, M, h1, h2, h3, h4, hc⟩)⟩
  ·rw [if_neg hq] at k; exact k.elim
 ·exact k.elim
def xN (sl : List Nat) (k n : Nat) (Gm : List A -> List PyData -> R PyData) : Sg -> R A := fun ρ => match gO sl ρ with
 | some caps => .ok (.g k n (Gm caps))
 | none => .bad
theorem aKF {S : ClSt} {fr : List Str} {sl : List Nat} {k n : Nat} {Gm : List A -> List PyData -> R PyData} {P0 : Addr} {qs : List (Pos × Str)} {cells : List (Str × Addr)} (hcl : cells = c.cells) (hT : c.g.T P0 = some (.tbl qs)) (M : CloOk X.prog X.w X.K X.mg X.base T S fr k n Gm) (h1 : ∀ y, (y, NameKind.free) ∈ S.scope.names -> y ∈ fr) (h2 : ∀ y ∈ fr, (y, NameKind.free) ∈ S.scope.names)
  (h3 : sl.map (fun j => X.N[j]?) = fr.map some) (h4 : ∀ j ∈ sl, j ∈ js) (h : PE X e (tMk cells S P0 qs)) : PE X e (tK1 X T c js E (xN sl k n Gm)) := PE.imp h fun σ H Q ⟨ρ, F, ab, k⟩ => by
 unfold xN at k
 split at k
 ·rename_i caps hc
  exact zV hcl hT ab fun v F' H' e1 hA => Rk.ok k v F' H' e1 (.inr ⟨_, fr, sl, _, _, Gm, caps, rfl, hA, M, h1, h2, h3, h4, hc⟩)
 ·exact k.elim
theorem aHL : PA X [] (tKs X T c js E aG) := PA.imp aS fun σ H Q ⟨ρ, F, ab, k⟩ => Rk.ok k [] F H (Ext.refl ab.fh) trivial
end
end Fl
namespace Fl
open PySem L2 PyProof.Rows
section
variable {X : Cx} {T : Hp} {c : Ct} {js : List Nat} {E : XK} {e : Expr} {es : List Expr}
theorem r6 {f : Sg -> R A} {g : Sg -> R (List A)} (h : PE X e (tK1 X T c js E f)) (h2 : PA X es (tKs X T c js E g)) (hs : starEach (e :: es) X.env = (false, eval e X.env) :: starEach es X.env := by rfl) : PA X (e :: es) (tKs X T c js E (aA f g)) := PA.imp (aI h h2 hs) fun σ H Q ⟨ρ, F, ab, k⟩ => by
 refine ⟨ρ, F, ab, (Rk.bind k).imp fun x _ q v F1 H1 s1 r1 => ⟨ρ, F1, ab.ext s1, ((Rk.bind q).ext s1).imp fun xs _ q vs F2 H2 s2 r2 => ?_⟩⟩
 exact Rk.ok q (v :: vs) F2 H2 (s1.trans s2) ⟨r1.same s2.ff, r2⟩
theorem xO : ∀ {js : List Nat} {ρ : Sg} {caps : List A}, gO js ρ = some caps -> ∀ j ∈ js, ∃ a, ρ[j]? = some (some a)
 | [], _, _, _, j, hj => by simp at hj
 | i :: js, ρ, caps, h, j, hj => by
  unfold gO at h
  split at h
  ·rename_i a as h1 h2
   rcases List.mem_cons.mp hj with z | z
   · subst z; exact ⟨a, (tM h1).1⟩
   · exact xO h2 j z
  ·cases h
theorem aHM {α : Type} {N : List α} {sl : List Nat} {fr : List α} (h : sl.map (fun j => N[j]?) = fr.map some) : sl.length = fr.length /\ ∀ (i : Nat) x, fr[i]? = some x -> ∃ j, sl[i]? = some j /\ N[j]? = some x := by
 have hl : sl.length = fr.length := by have := congrArg List.length h; simpa using this
 refine ⟨hl, fun i x e => ?_⟩
 have hi : i < fr.length := (List.getElem?_eq_some_iff.mp e).1
 have h2 : (sl.map (fun j => N[j]?))[i]? = (fr.map some)[i]? := by rw [h]
 rw [List.getElem?_map, List.getElem?_map, e, List.getElem?_eq_getElem (by omega)] at h2
 exact ⟨sl[i], List.getElem?_eq_getElem _, Option.some.inj h2⟩
theorem aEX {S : ClSt} {fr : List Str} {sl : List Nat} {k n : Nat} {Gm : List A -> List PyData -> R PyData} {caps : List A} {ρ : Sg} {σ : L2.St} {F H : Hp} {cv : Cv} {v : V} (hG : c.g = gOf X.prog X.w X.K X.mg X.base T) (hK : X.K = c.K) (hM : X.mg = c.mg) (hcl : X.env.cells = c.cells) (ab : Ab c ρ σ F H) (R : PubRel X σ H js cv)
  (hA : oC c F S v) (M : CloOk X.prog X.w X.K X.mg X.base T S fr k n Gm) (h1 : ∀ y, (y, NameKind.free) ∈ S.scope.names -> y ∈ fr) (h2 : ∀ y ∈ fr, (y, NameKind.free) ∈ S.scope.names)
  (h3 : sl.map (fun j => X.N[j]?) = fr.map some) (h4 : ∀ j ∈ sl, j ∈ js) (hc : gO sl ρ = some caps) : AF c.g c.K c.mg (pub cv F) (.g k n (Gm caps)) v := by
 obtain ⟨f, cl, doc, pm, cc, ct, rfl, q1, q2, q3⟩ := hA
 obtain ⟨cvs, r, l, gt⟩ := zW ab hc
 obtain ⟨l3, g3⟩ := aHM h3
 have hdF : ∀ b ∈ cV cv, F b = none := fun b hb => cB ab.fh (R.free b hb)
 have hs : aK F (pub cv F) := j5 hdF
 have key : ∀ (i : Nat) x v, fr[i]? = some x -> cvs[i]? = some v -> ∃ a o, cl.lookup x = some a /\ cv.lookup a = some (o, v) := fun i x v e1 e2 => by
  obtain ⟨j, e3, e4⟩ := g3 i x e1
  obtain ⟨v', e5, e6⟩ := gt i j e3
  rw [e2] at e5; cases e5
  obtain ⟨x', a, o, v2, e7, e8, e9, e10⟩ := R.all j (h4 j (List.mem_of_getElem? e3))
  rw [e4] at e7; cases e7
  rw [e6] at e9; cases e9
  obtain ⟨a', e11⟩ := q3.all (x, .free) (h2 x (List.mem_of_getElem? e1)) rfl
  have e12 := q3.of _ _ e11
  rw [<- hcl] at e12
  have e12' : X.env.cells.lookup x = some a' := e12
  rw [e8] at e12'; cases e12'
  exact ⟨a, o, e11, e10⟩
 refine ⟨f, pub cv F, rfl, bY _, ?_⟩
 rw [hG]
 refine M F (pub cv F) caps cvs f cl doc pm ct cc (fun a o z => ab.f0 a o (ab.t0 a o (by rw [hG]; exact z))) (by rw [hK, hM, <- hK, <- hM]; rw [hG] at r; rw [<- hK, <- hM] at r; exact r) hs (hs _ _ q1) (hs _ _ q2) ⟨l.trans l3, fun n c e => h1 n (q3.only n c e), fun n n' c e e' => R.inj n n' c (by rw [hcl]; exact q3.of _ _ e) (by rw [hcl]; exact q3.of _ _ e'), fun i x v e1 e2 => ?_⟩ fun a ha => ?_
 ·obtain ⟨a, o, e3, e4⟩ := key i x v e1 e2
  exact ⟨a, o, e3, pA e4⟩
 ·obtain ⟨x, hx, e⟩ := List.mem_filterMap.mp ha
  obtain ⟨i, hi, hxi⟩ := List.mem_iff_getElem.mp hx
  obtain ⟨a', o, e3, e4⟩ := key i x (cvs[i]'(by rw [l, l3]; exact hi)) (by rw [List.getElem?_eq_getElem hi, hxi]) (List.getElem?_eq_getElem _)
  rw [e] at e3; cases e3
  exact hdF a (gQ.mpr ⟨_, e4⟩)
theorem vP {ρ : Sg} {σ : L2.St} {F H : Hp} {cv : Cv} (hG : c.g = gOf X.prog X.w X.K X.mg X.base T) (hK : X.K = c.K) (hM : X.mg = c.mg) (hcl : X.env.cells = c.cells) (ab : Ab c ρ σ F H) (R : PubRel X σ H js cv) : ∀ {as : List A} {vs : List V}, aBH X T c js ρ F as vs -> AFs c.g c.K c.mg (pub cv F) as vs
 | [], [], _ => trivial
 | a :: as, v :: vs, h => by
  refine ⟨?_, vP hG hK hM hcl ab R h.2⟩
  rcases h.1 with q | ⟨S, fr, sl, k, n, Gm, caps, rfl, q1, q2, q3, q4, q5, q6, q7⟩
  · exact AF.same (j5 fun b hb => cB ab.fh (R.free b hb)) q
  · exact aEX hG hK hM hcl ab R q1 q2 q3 q4 q5 q6 q7
def pN (js : List Nat) (n : Nat) (G : List A -> R A) (f : Sg -> R (List A)) : Sg -> R A := fun ρ => match gO js ρ with
 | some _ => (f ρ).bind fun as => if as.length = n then (dOf (G as)).bind fun x => .ok (.d x) else .bad
 | none => .bad
theorem aKG {n : Nat} {G : List A -> R A} {g : Gb} {K : Frag} {mg : Str -> Option Value} {f : Sg -> R (List A)} (hG : c.g = gOf X.prog X.w X.K X.mg X.base T) (hK : X.K = c.K) (hM : X.mg = c.mg) (hcl : X.env.cells = c.cells) (hg : g = c.g) (hk : K = c.K) (hm : mg = c.mg)
  (hcs : ∀ j ∈ js, ∃ x, X.N[j]? = some x /\ X.env.kindOf x = some .cell /\ X.fn x = true) (h : PE X e (aCR X js (spF g K mg n G) E (tKs X T c js E f))) : PV X c E e (pN js n G f) := PE.imp h fun σ H Q ⟨ρ, F, ab, k⟩ => by
 subst hg hk hm
 unfold pN at k
 split at k
 ·rename_i caps hc
  refine ⟨ρ, F, ab, (Rk.bind k).imp fun as _ q vs F1 H1 e1 r1 => ⟨fun j hj => ?_, fun cv R => ?_⟩⟩
  ·obtain ⟨x, a1, a2, a3⟩ := hcs j hj
   obtain ⟨a, ha⟩ := xO hc j hj
   obtain ⟨v, hv, _⟩ := ab.slot j a ha
   exact ⟨x, v, a1, a2, a3, hv⟩
  ·by_cases hn : as.length = n
   ·rw [if_pos hn] at q
    have ab1 := ab.ext e1
    have hdF : ∀ b ∈ cV cv, F1 b = none := fun b hb => cB e1.fh (R.free b hb)
    refine ⟨pub cv F1, as, fun a o z => j5 hdF a o (e1.ff a o (ab.f0 a o (ab.t0 a o z))), aEW e1.fh, vP hG hK hM hcl ab1 R r1, hn, ?_⟩
    cases hgg : G as with
    | bad => rw [hgg] at q; exact q
    | ok a =>
     rw [hgg] at q
     cases a with
     | d x =>
      intro v F2 H2 e2 r2
      exact Rk.ok q v _ _ (e1.trans (vN R.free e1.fh e2)) (zS (xL e2.ff) r2)
     | l xs => exact False.elim q
     | m xs => exact False.elim q
     | x xs => exact False.elim q
     | g k n f => exact False.elim q
     | k S => exact False.elim q
     | f S => exact False.elim q
    | ex x =>
     rw [hgg] at q
     intro a C F2 H2 e2 r2
     obtain ⟨q1, q2⟩ := aEV (xL e2.ff) r2
     exact ⟨q a C _ _ ((ab.all.trans e1).trans (vN R.free e1.fh e2)) q1, fun b hb => by cases hb; exact q2⟩
   ·rw [if_neg hn] at q; exact q.elim
 ·exact k.elim
end
section
variable {P : Program} {w : World} {K : Frag} {mg : Str -> Option Value} {base : Heap} {T : Hp}
structure DefAtT (K : Frag) (mg : Str -> Option Value) (base : Heap) (T : Hp) (qs : List (Pos × Str)) (x : Str) (st : Stmt) (ps : List Str) : Prop where
 ex : ∃ f oc od kV doc pm an c0 ct osl P0, K.lookup f = some ⟨oc, od, .func (PySem.W.fnOf x x (fX st) (c7 st) (aL st) .none kV doc pm an (.ref c0) ct), osl⟩ /\ PySem.W.codeIn K (.ref c0) x = true /\ PySem.W.keepIn K (.ref f) = true /\
  iE K (PySem.W.fnOf x x (fX st) (c7 st) (aL st) .none kV doc pm an (.ref c0) ct) ps [] /\ mg x = some (.ref f) /\ Tb mg base c0 P0 /\ T P0 = some (.tbl qs)
theorem aNP {h : Heap} {qs : List (Pos × Str)} {xs : List Str} {x : Str} {st : Stmt} {ps : List Str} (D : DefAt K mg x st ps) (KX : K.In h) (TL : wV mg h base T qs xs) (hx : x ∈ xs) : DefAtT K mg base T qs x st ps := by
 obtain ⟨f, fd, F, b, m⟩ := D.ex
 obtain ⟨oc, od, kV, doc, pm, an, cdv, ct, osl, rfl, lk, hcd⟩ := F.ex
 obtain ⟨c0, P0, t1, t2, t3⟩ := TL x hx
 have e : cdv = .ref c0 := t3 f _ _ m (KX _ _ lk) rfl
 subst e
 exact ⟨f, oc, od, kV, doc, pm, an, c0, ct, osl, P0, lk, hcd, F.kp, b, m, t2, t1⟩
theorem aHN {x : Str} {st : Stmt} {N ps : List Str} {k : Nat} {qs : List (Pos × Str)} {cls : Str -> Option ClSt} {fb : Sg -> R Fw} (D : DefAtT K mg base T qs x st ps) (S : FnScope N ps (aL st))
  (hbody : ∀ (f c0 P0 : Addr) (A : Around) (outer : List Env) (s : Shared) (H F : Hp) (E : XK), Tb mg base c0 P0 -> T P0 = some (.tbl qs) -> Room k (A.deeper (envOfC x (aL st) s.heap.objs.size f (.ref c0))) ->
   kW ((j2 (CXe P w) P w K mg base N x (aL st) f (.ref c0) A outer s H E).fly E) ⟨K, mg, w, F, H, gOf P w K mg base T, (envOfC x (aL st) s.heap.objs.size f (.ref c0)).cells, cls⟩ E (c7 st) fb) : a6 P w K mg base T (k + 1) x ps (fnF N.length fb) := by
 obtain ⟨f, oc, od, kV, doc, pm, an, c0, ct, osl, P0, lk, hcd, kp, b, m, t2, t1⟩ := D.ex
 refine ⟨f, _, aFP lk hcd S (fun vs H Q E h => ?_) (fun A outer s H vs Q E hr h => ?_), b, m, kp⟩
 ·obtain ⟨F, as, _, _, h2, h3, _⟩ := h
  rw [h2.len, h3]
 ·obtain ⟨F, as, h0, h1, h2, h3, h4⟩ := h
  exact ⟨_, (hbody f c0 P0 A outer s H F E t2 t1 hr).unfly fun _ _ z => vA z, qI h0 h1 h2 h4⟩
end
end Fl
namespace Fl
open PySem L2 PyProof.Rows
def aKH : Stmt -> Expr
 | .Assign _ e _ => e
 | .Return (some e) _ => e
 | _ => .Constant .none 0 ⟨0, 0, 0, 0⟩
def aKI (e : Expr) (i : Nat) : Expr := match e with
 | .Call _ as _ _ => as.getD i (.Constant .none 0 ⟨0, 0, 0, 0⟩)
 | e => e
def clS (q : Str) : Stmt -> ClSt
 | .FunctionDef x a b _ _ _ sc _ _ _ => ⟨x, q, a, .stmts b, sc⟩
 | s => ⟨"", q, fX s, .stmts [], aL s⟩
def clE (q : Str) : Expr -> ClSt
 | .Lambda a b sc _ => ⟨"<lambda>", q, a, .expr b, sc⟩
 | _ => ⟨"", q, fX (.Pass ⟨0, 0, 0, 0⟩), .stmts [], aL (.Pass ⟨0, 0, 0, 0⟩)⟩
def aNQ : Stmt -> Pos
 | .FunctionDef _ _ _ _ _ _ _ _ _ p => p
 | _ => ⟨0, 0, 0, 0⟩
def aNR : Expr -> Pos
 | .Lambda _ _ _ p => p
 | _ => ⟨0, 0, 0, 0⟩
theorem aKJ {X : Cx} : ∀ j ∈ ([] : List Nat), ∃ x, X.N[j]? = some x /\ X.env.kindOf x = some .cell /\ X.fn x = true := fun j h => by simp at h
theorem aHO {X : Cx} {i : Nat} {js : List Nat} (h : ∃ x, X.N[i]? = some x /\ X.env.kindOf x = some .cell /\ X.fn x = true) (t : ∀ j ∈ js, ∃ x, X.N[j]? = some x /\ X.env.kindOf x = some .cell /\ X.fn x = true) : ∀ j ∈ i :: js, ∃ x, X.N[j]? = some x /\ X.env.kindOf x = some .cell /\ X.fn x = true := fun j hj => by
 rcases List.mem_cons.mp hj with z | z
 · subst z; exact h
 · exact t j z
end Fl
namespace Zp
open PySem
structure Apart (z TI TO i1 i2 : Addr) (f1 f2 : List Addr) : Prop where
 TIz : TI ≠ z
 TOz : TO ≠ z
 i1z : i1 ≠ z
 i2z : i2 ≠ z
 TITO : TI ≠ TO
 TIi1 : TI ≠ i1
 TIi2 : TI ≠ i2
 TOi1 : TO ≠ i1
 TOi2 : TO ≠ i2
 i12 : i1 ≠ i2
 z1 : z ∉ f1
 z2 : z ∉ f2
 t1 : TO ∉ f1
 t2 : TO ∉ f2
 i1f2 : i1 ∉ f2
 i2f1 : i2 ∉ f1
abbrev H2 (h : Heap) (o1 o2 : Obj) : Heap := (h.push o1).push o2
abbrev H3 (h : Heap) (o1 o2 : Obj) : Heap := (H2 h o1 o2).push { cls := .type "tuple", data := .seq #[.ref h.objs.size, .ref (h.push o1).objs.size] }
abbrev H4 (h : Heap) (o1 o2 : Obj) : Heap := (H3 h o1 o2).push { cls := .type "tuple", data := .seq #[.none, .none] }
abbrev H5 (h : Heap) (o1 o2 : Obj) : Heap := (H4 h o1 o2).push { cls := .type "zip", data := .fields #[.none, .bool false, .bool false, .ref (H2 h o1 o2).objs.size, .ref (H3 h o1 o2).objs.size] }
end Zp
namespace L2
open PySem PySem.Spec PyProof.Rows
abbrev Col := Hp -> List V -> Prop
structure ColOk (P : Program) (w : World) (K : Frag) (C : Col) (it : Addr) (tn : Nat -> Heap -> Prop) : Prop where
 obj : ∀ i h, tn i h -> ∃ o, h.get? it = some o /\ ∀ v, o.data ≠ .cell v
 keep : ∀ i h h', tn i h -> (∀ o, h.get? it = some o -> h'.get? it = some o) -> tn i h'
 one : ∀ (X : Cx), X.prog = P -> X.w = w -> X.K = K -> ∀ pins s σ H xs ys, Inv X pins σ H s -> C H xs -> C H ys -> xs = ys
 draw : ∀ (X : Cx), X.prog = P -> X.w = w -> X.K = K -> ∀ (i : Nat) (pins : List (Addr × Obj)) (s : Shared) (σ : St) (H : Hp) (xs : List V) (A : Around), Inv X pins σ H s -> j0 X pins H it -> tn i s.heap -> C H xs -> A.handled = none ->
  ∃ fp Pv St, Draws P w A it fp xs.length Pv St /\ St i s.heap /\ (∀ j h, St j h -> tn j h) /\ (∀ j v, Pv j v -> ∃ x, xs[j]? = some x /\ a5 x v) /\ ∀ b, j0 X pins H b -> b ≠ it -> b ∉ fp
end L2
namespace L2
open PySem PySem.Spec PyProof.Rows
end L2
namespace Fl
open PySem L2 PyProof.Rows
section
variable {X : Cx} {c : Ct} {E : XK} {e a b : Expr} {st : Stmt} {pos : Pos}
def aMF (i : Nat) (f g : Sg -> R PyData) : Sg -> R Fw := fun ρ => match ρ[i]? with
 | some (some (.m kvs)) => (f ρ).bind fun k => (g ρ).bind fun y => if cQ k (kvs.map (·.1)) = true /\ kvs.length <= 16777216 then .ok (.nx (if d9 kvs k = true then ρ else ρ.set i (some (.m (putM kvs k y))))) else .bad
 | _ => .bad
end
end Fl
namespace Fl
open PySem L2 PyProof.Rows
def aNS (i : Nat) : Sg -> R Fw := fun ρ => match ρ[i]? with
 | some (some (.l xs)) => .ok (.nx (ρ.set i (some (.l xs.reverse))))
 | _ => .bad
end Fl
namespace Zp
open PySem
end Zp
namespace Mc
open PySem L2 PyProof.Rows Fl
def oD : Sg -> R Fw := (aY (vD (e1 dLen (e2 dIx (e2 dIx (rV 0) (eC (.int 0))) (eC (.int 1))))))
def iJ : List A -> R A := fnF 1 oD
def oE : Sg -> R Fw := (aY (vD (eL (fG [none, some 1] (e1 bT (rV 0)) (stN 0) gS (e2 dIx (e2 dIx (rV 0) (eC (.int 1))) (rV 1))))))
def iK : List A -> R A := fnF 2 oE
def pO : Sg -> R Fw := (aD (cR 3 (cY (aA (eV 0) aG)))
 (aD (n9 4 (n8 (eV 0) (eC (.int 0)) r0))
 (aD (cR 5 (cY aG))
 (aD (a9 (gG (e1 asB (e2 dLt (e1 dLen (rV 5)) (e1 dLen (rV 3)))) (gR (e1 asB (tK 12 2 (aA (rV 3) (aA (e1 dLen (rV 5)) aG)))))) (aD (cR 6 (cY aG))
 (aD (jT (e1 bT (xJ 12 1 (aA (e2 dIx (rV 3) (e1 dLen (rV 5))) aG))) (stN 7) (aD (sIf (e1 asB (gU true 4 (eV 7))) (aD (fH 4 (eV 7) (e1 dLen (rV 3)))
 (dB 3 (eV 7))) sNx)
 (dB 6 (mK 4 (eV 7)))))
 (dB 5 (e1 dTup (rV 6))))))
 (sFz 5 (sFz 3 (aY (vD (cG (aA (eV 3) (aA (eV 5) aG)))))))))))
def jJ : List A -> R A := fnF 8 pO
def mL : Sg -> R Fw := (aY (vD (e1 (dN "str") (rV 0))))
def dJ : List A -> R A := fnF 1 mL
def jV : Sg -> R Fw := (aD (bN 1 (vD (e1 dTup (eL (fG [none] (e1 bT (rV 0)) (stN 0) gS (e2 dIx (rV 0) (eC (.int 0))))))))
 (aY (vD (cG (aA (e2 dIx (rV 1) (eC (.int 0))) (aA (eV 1) aG))))))
def fJ : List A -> R A := fnF 2 jV
def pP : Sg -> R Fw := (aD (iZ 3)
 (aD (a9 (gR (e1 asB (eA (aV 1 dJ (aA (vV 2) aG))))) (aD (sIf (e1 asB (gU false 3 (eV 2))) (aY (vD (eC (.str "ever")))) sNx)
 (aD (fH 3 (eV 2) (eC (.bool true)))
 (aD (bN 4 (vD (e2 dIx (rV 1) (rV 2))))
 (aD (sIf (e1 asB (e2 dEq (e2 dIx (rV 4) (eC (.int 1))) (eC (.int 1)))) (aY (vD (e2 dIx (rV 4) (eC (.int 0))))) sNx)
 (bN 2 (vD (e2 dIx (rV 0) (e2 dIx (rV 4) (eC (.int 0)))))))))))
 (aY (vV 2))))
def hV : List A -> R A := fnF 5 pP
def r9 : Sg -> R Fw := (aD (bN 2 (aV 3 hV (aA (vD (e2 dIx (rV 0) (eC (.int 1)))) (aA (vV 1) (aA (vD (e2 dIx (rV 0) (eC (.int 0)))) aG)))))
 (aD (bN 3 (vD (e1 dTup (eL (fG [none, some 0, some 1] (iH (e1 dLen (rV 1))) (stN 0) gS (eA (aV 3 hV (aA (vD (e2 dIx (rV 1) (eC (.int 1)))) (aA (vV 2) (aA (vV 0) aG))))))))))
 (aY (vD (cG (aA (eV 2) (aA (eV 3) aG)))))))
def gH : List A -> R A := fnF 4 r9
def kX : Sg -> R Fw := (aD (bN 2 (vD (e2 dIx (rV 1) (eC (.int 0)))))
 (aD (iZ 3)
 (aD (a9 (gR (e1 asB (eA (aV 1 dJ (aA (vV 2) aG))))) (aD (sIf (e1 asB (gU false 3 (eV 2))) (aY (vD (eC (.str "ever")))) sNx)
 (aD (fH 3 (eV 2) (eC (.bool true)))
 (aD (bN 4 (vD (e2 dIx (e2 dIx (rV 0) (rV 2)) (eC (.int 2)))))
 (bN 2 (vD (eIf (e1 asB (eA (aV 1 dJ (aA (vV 4) aG)))) (eV 4) (e2 dIx (e2 dIx (rV 1) (eC (.int 1))) (rV 4)))))))))
 (aY (vV 2)))))
def eG : List A -> R A := fnF 5 kX
def dC : Sg -> R Fw := (aY (vD (eL (fG [none, some 0] (e1 bT (rV 1)) (stN 0) gS (eA (aV 2 gH (aA (vV 1) (aA (vV 0) aG))))))))
def eD : Sg -> R Fw := (aY (vD (e2 dGt (e1 dLen (rV 0)) (eC (.int 200)))))
def mM : Sg -> R Fw := (aD (cR 1 (fG [none, some 0] (iH (eA (aV 1 iJ (aA (vV 0) aG)))) (stN 0) gS (eA (aV 2 iK (aA (vV 1) (aA (vV 0) aG))))))
 (aD (wD 2 "one_way.<locals>.after")
 (aD (sFz 1 (bN 3 (pN [1] 3 jJ (aA (aV 1 fJ (aA (vV 0) aG)) (aA (tN "one_way.<locals>.after" [1] 4 1 (jU 2 dC) 2) (aA (xN [] 1 2 (jU 2 eD)) aG))))))
 (aD (bN 4 (vD (e2 dIx (rV 3) (eC (.int 0)))))
 (aD (sIf (e1 asB (e2 dGt (e1 dLen (rV 4)) (eC (.int 200)))) (uO "TooMany" (eC (.int 200))) sNx)
 (aY (vD (cG (aA (e1 dTup (e2 dIx (rV 3) (eC (.int 1)))) (aA (e1 dTup (eL (fG [none, some 0] (e1 bT (rV 4)) (stN 0) gS (eA (aV 2 eG (aA (vV 1) (aA (vV 0) aG))))))) aG))))))))))
def jK : List A -> R A := fnF 5 mM
end Mc
namespace Mc
open PySem L2 PyProof.Rows
def l0 (k : Nat) (rs : List Rw) : Tb := ⟨rs.map fun r => some ((r.c.getD k (0, 0)).2, (r.c.getD k (0, 0)).1), rs.map fun r => some ((r.c.getD k (0, 0)).2, (r.c.getD k (0, 0)).1)⟩
theorem lM {rs : List Rw} {sg : Nat} {r : Rw} {k : Nat} (M : Mach rs sg) (hr : r ∈ rs) (hk : k < sg) : r.c[k]? = some (r.c.getD k (0, 0)) /\ j4 rs.length (r.c.getD k (0, 0)) := by
 have h := M.row r hr
 have hl : k < r.c.length := by rw [h.2]; exact hk
 have e : r.c[k]? = some (r.c.getD k (0, 0)) := by rw [List.getD_eq_getElem?_getD, List.getElem?_eq_getElem hl]; rfl
 exact ⟨e, h.1.2.2 _ (List.mem_of_getElem? e)⟩
theorem yR {rs : List Rw} {sg k : Nat} (M : Mach rs sg) (hk : k < sg) : (l0 k rs).good rs.length := by
 have key : ∀ x ∈ rs.map fun r => some ((r.c.getD k (0, 0)).2, (r.c.getD k (0, 0)).1), sY rs.length x := fun x hx => by
  obtain ⟨r, hr, rfl⟩ := List.mem_map.mp hx
  obtain ⟨_, g1, g2, g3⟩ := lM M hr hk
  exact ⟨g3, g1, g2⟩
 exact ⟨by unfold l0; simp, by unfold l0; simp, key, key⟩
theorem aC4 {rs : List Rw} {k : Nat} {w q : Int} (h0 : 0 <= q) (h1 : q < (rs.length : Int)) : (l0 k rs).at w q = some (((aO rs q).c.getD k (0, 0)).2, ((aO rs q).c.getD k (0, 0)).1) := by
 unfold Tb.at l0
 have e := dH h0 h1
 rw [ite_self, List.getD_eq_getElem?_getD, List.getElem?_map, e]; rfl
def eR (rs : List Rw) (z : List Nat) : List Tb := z.map fun c => l0 (c - 97) rs
theorem xP {rs : List Rw} {sg : Nat} {z : List Nat} (M : Mach rs sg) (S : bI sg z) : ∀ t ∈ eR rs z, t.good rs.length := fun t ht => by
 obtain ⟨c, hc, rfl⟩ := List.mem_map.mp ht
 have := of_decide_eq_true (S.2 c hc)
 exact yR M (by omega)
def jW (rs : List Rw) (z : List Nat) : Tb := if z = [] then sZ rs.length else o7 rs.length (eR rs z)
theorem yS {rs : List Rw} {sg : Nat} {z : List Nat} (M : Mach rs sg) (S : bI sg z) : (jW rs z).good rs.length := by
 unfold jW
 by_cases h : z = []
 ·rw [if_pos h]; exact aAY _
 ·rw [if_neg h]
  refine yP (xP M S) ?_
  unfold eR
  rw [List.length_map]
  exact List.length_pos_iff.mpr h
def eK (rs : List Rw) (z : List Nat) (s : Int × Int) : Option ((Int × Int) ⊕ (Int × Int)) :=
 let c := (aO rs s.2).c.getD (z.getD (s.1.toNat - 1) 97 - 97) (0, 0)
 if 0 < s.1 + c.2 /\ s.1 + c.2 <= (z.length : Int) then some (.inl (s.1 + c.2, c.1)) else some (.inr ((if 0 < s.1 + c.2 then 1 else -1), c.1))
def kJ (rs : List Rw) (z : List Nat) (s : Int × Int) : Prop := 1 <= s.1 /\ s.1 <= (z.length : Int) /\ 0 <= s.2 /\ s.2 < (rs.length : Int)
theorem kJ.valid {rs : List Rw} {z : List Nat} {s : Int × Int} (h : kJ rs z s) : gX rs z s := ⟨by have := h.1; omega, by have := h.2.1; omega, h.2.2⟩
theorem vQ {rs : List Rw} {sg : Nat} {z : List Nat} {s : Int × Int} (M : Mach rs sg) (S : bI sg z) (V : kJ rs z s) : ∃ ch cc, z[s.1.toNat - 1]? = some ch /\ dG sg ch = true /\ z.getD (s.1.toNat - 1) 97 = ch /\ (aO rs s.2).c[ch - 97]? = some cc /\ (aO rs s.2).c.getD (ch - 97) (0, 0) = cc /\ j4 rs.length cc := by
 have h0 : s.1 ≠ 0 := by have := V.1; omega
 have h1 : s.1 ≠ (z.length : Int) + 1 := by have := V.2.1; omega
 obtain ⟨ch, a1, a2, a3⟩ := uB S V.valid h0 h1
 obtain ⟨cc, b1, b2, b3⟩ := rO M S V.valid h0 h1
 rw [a3] at b1 b2
 exact ⟨ch, cc, a1, a2, a3, b1, b2, b3⟩
theorem with_step {rs : List Rw} {sg : Nat} {z : List Nat} {s : Int × Int} (M : Mach rs sg) (S : bI sg z) (V : kJ rs z s) (w : Int) :
  (∃ s', eK rs z s = some (.inl s') /\ kJ rs z s' /\ ∃ w', cO (eR rs z) (s.1 - 1, w, s.2) = some (.inl (s'.1 - 1, w', s'.2))) \/ ∃ o, eK rs z s = some (.inr o) /\ cO (eR rs z) (s.1 - 1, w, s.2) = some (.inr o) := by
 obtain ⟨ch, cc, a1, a2, a3, b1, b2, g1, g2, g3⟩ := vQ M S V
 have hl : ((eR rs z).length : Int) = (z.length : Int) := by unfold eR; simp
 have hx : (s.1 - 1).toNat = s.1.toNat - 1 := by have := V.1; omega
 have hb : cO (eR rs z) (s.1 - 1, w, s.2) = if 0 <= s.1 - 1 + cc.2 /\ s.1 - 1 + cc.2 < (z.length : Int) then some (.inl (s.1 - 1 + cc.2, cc.2, cc.1)) else some (.inr (cc.2, cc.1)) := by
  have e : (eR rs z).getD (s.1 - 1).toNat ⟨[], []⟩ = l0 (ch - 97) rs := by
   rw [List.getD_eq_getElem?_getD, hx]
   unfold eR
   rw [List.getElem?_map, a1]; rfl
  unfold cO
  dsimp only
  rw [e, aC4 V.2.2.1 V.2.2.2, b2, hl]
 have hw : eK rs z s = if 0 < s.1 + cc.2 /\ s.1 + cc.2 <= (z.length : Int) then some (.inl (s.1 + cc.2, cc.1)) else some (.inr ((if 0 < s.1 + cc.2 then 1 else -1), cc.1)) := by
  unfold eK
  rw [a3, b2]
 by_cases hin : 0 < s.1 + cc.2 /\ s.1 + cc.2 <= (z.length : Int)
 ·rw [if_pos hin] at hw
  rw [if_pos (by omega)] at hb
  refine .inl ⟨_, hw, ⟨by show 1 <= s.1 + cc.2; omega, hin.2, g1, g2⟩, cc.2, ?_⟩
  rw [hb, show s.1 - 1 + cc.2 = s.1 + cc.2 - 1 by omega]
 ·rw [if_neg hin] at hw
  rw [if_neg (by omega)] at hb
  refine .inr ⟨_, hw, ?_⟩
  rw [hb]
  have v1 := V.1
  have v2 := V.2.1
  rcases g3 with g3 | g3
  ·rw [if_pos (by omega), g3]
  ·rw [if_neg (by omega), g3]
theorem xQ {rs : List Rw} {sg : Nat} {z : List Nat} {s : Int × Int} (M : Mach rs sg) (S : bI sg z) (V : kJ rs z s) (w : Int) : aZ (eK rs z) s = aZ (cO (eR rs z)) (s.1 - 1, w, s.2) := by
 refine iV fun o => ⟨?_, ?_⟩
 ·rintro ⟨n, h⟩
  refine ⟨n, ?_⟩
  induction h generalizing w with
  | out h =>
   rcases with_step M S V w with ⟨s', e, _⟩ | ⟨o', e, g⟩
   · rw [h] at e; cases e
   · rw [h] at e; cases e; exact .out g
  | go h t ih =>
   rcases with_step M S V w with ⟨s', e, V', w', g⟩ | ⟨o', e, g⟩
   · rw [h] at e; cases e; exact .go g (ih V' w')
   · rw [h] at e; cases e
 ·rintro ⟨n, h⟩
  refine ⟨n, ?_⟩
  generalize hs : (s.1 - 1, w, s.2) = p at h
  induction h generalizing s w with
  | out h =>
   subst hs
   rcases with_step M S V w with ⟨s', _, _, w', e⟩ | ⟨o', g, e⟩
   · rw [h] at e; cases e
   · rw [h] at e; cases e; exact .out g
  | go h t ih =>
   subst hs
   rcases with_step M S V w with ⟨s', g, V', w', e⟩ | ⟨o', g, e⟩
   · rw [h] at e; cases e; exact .go g (ih V' w' rfl)
   · rw [h] at e; cases e
def i3 (rs : List Rw) (z : List Nat) (p q : Int) : Th := if 1 <= p /\ p <= (z.length : Int) then aZ (eK rs z) (p, q) else some ((if 0 < p then 1 else -1), q)
theorem aBI {rs : List Rw} {sg : Nat} {z : List Nat} (M : Mach rs sg) (S : bI sg z) : (jW rs z).f = (List.range rs.length).map (fun q : Nat => i3 rs z 1 (q : Int)) /\ (jW rs z).a = (List.range rs.length).map (fun q : Nat => i3 rs z (z.length : Int) (q : Int)) := by
 unfold jW
 by_cases h : z = []
 ·rw [if_pos h]
  subst h
  refine ⟨?_, ?_⟩
  ·show (List.range rs.length).map _ = _
   refine List.map_congr_left fun q hq => ?_
   unfold i3
   rw [if_neg (by simp), if_pos (by decide)]
  ·show (List.range rs.length).map _ = _
   refine List.map_congr_left fun q hq => ?_
   unfold i3
   rw [if_neg (by simp), if_neg (by simp)]
 ·have hl : 1 <= z.length := List.length_pos_iff.mpr h
  have hsl : ((eR rs z).length : Int) = (z.length : Int) := by unfold eR; simp
  rw [if_neg h]
  refine ⟨?_, ?_⟩
  ·show (List.range rs.length).map _ = _
   refine List.map_congr_left fun q hq => ?_
   have hq := List.mem_range.mp hq
   unfold i3
   rw [if_pos (by omega), xQ M S ⟨by show (1 : Int) <= 1; decide, by show (1 : Int) <= _; omega, by show (0 : Int) <= (q : Int); omega, by show (q : Int) < _; omega⟩ 1]
   rfl
  ·show (List.range rs.length).map _ = _
   refine List.map_congr_left fun q hq => ?_
   have hq := List.mem_range.mp hq
   unfold i3
   rw [if_pos (by omega), xQ M S ⟨by show (1 : Int) <= (z.length : Int); omega, by show (z.length : Int) <= _; omega, by show (0 : Int) <= (q : Int); omega, by show (q : Int) < _; omega⟩ (-1), hsl]
end Mc
namespace Fl
open PySem L2 PyProof.Rows
@[simp] theorem lF (d : PyData) (ρ : Sg) : eC d ρ = .ok d := id rfl
@[simp] theorem kK {α β : Type} (g : α -> R β) (f : Sg -> R α) (ρ : Sg) : e1 g f ρ = (f ρ).bind g := id rfl
@[simp] theorem kL {α β γ : Type} (g : α -> β -> R γ) (f : Sg -> R α) (f' : Sg -> R β) (ρ : Sg) : e2 g f f' ρ = (f ρ).bind fun x => (f' ρ).bind fun y => g x y := id rfl
@[simp] theorem wE (i : Nat) (ρ : Sg) : eV i ρ = match ρ[i]? with | some (some (.d x)) => .ok x | _ => .bad := id rfl
@[simp] theorem iL (i : Nat) (ρ : Sg) : rV i ρ = match ρ[i]? with | some (some (.d x)) => .ok x | some (some (.l xs)) => .ok (.list xs) | _ => .bad := id rfl
@[simp] theorem tO (i : Nat) (ρ : Sg) : vV i ρ = match ρ[i]? with | some (some (.d x)) => .ok (.d x) | some (some (.x e)) => .ok (.x e) | some (some (.g k n f)) => .ok (.g k n f) | some (some (.f kvs)) => .ok (.f kvs) | _ => .bad := id rfl
@[simp] theorem oF (f : Sg -> R PyData) (ρ : Sg) : vD f ρ = (f ρ).bind fun x => .ok (.d x) := id rfl
@[simp] theorem xR (x : PyData) : getD (.d x) = .ok x := id rfl
@[simp] theorem aBJ (f : Sg -> R A) (ρ : Sg) : eA f ρ = (f ρ).bind getD := id rfl
@[simp] theorem aO5 (f : Sg -> R (List PyData)) (ρ : Sg) : eL f ρ = (f ρ).bind fun xs => .ok (.list xs) := id rfl
@[simp] theorem gB {α : Type} (ρ : Sg) : (aG (α := α)) ρ = .ok [] := id rfl
@[simp] theorem i7 {α : Type} (f : Sg -> R α) (g : Sg -> R (List α)) (ρ : Sg) : aA f g ρ = (f ρ).bind fun x => (g ρ).bind fun xs => .ok (x :: xs) := id rfl
@[simp] theorem zX (f : Sg -> R (List PyData)) (ρ : Sg) : cG f ρ = (f ρ).bind fun xs => if xs.length <= 16777216 then .ok (.tuple xs) else .bad := id rfl
@[simp] theorem lN (f : Sg -> R (List PyData)) (ρ : Sg) : cY f ρ = (f ρ).bind fun xs => if xs.length <= 16777216 then .ok xs else .bad := id rfl
@[simp] theorem l5 (n : Nat) (G : List A -> R A) (f : Sg -> R (List A)) (ρ : Sg) : aV n G f ρ = (f ρ).bind fun as => if as.length = n then G as else .bad := id rfl
@[simp] theorem kT (n : Nat) (fb : Sg -> R Fw) (as : List A) : fnF n fb as = (fb (as.map some ++ List.replicate (n - as.length) none)).bind fun w => match w with | .rt a => .ok a | .nx _ => .ok (.d .none) | _ => .bad := id rfl
@[simp] theorem xS (ρ : Sg) : sNx ρ = .ok (.nx ρ) := id rfl
@[simp] theorem bL (f g : Sg -> R Fw) (ρ : Sg) : aD f g ρ = (f ρ).bind fun w => match w with | .nx ρ' => g ρ' | w => .ok w := id rfl
@[simp] theorem aHP (f : Sg -> R A) (ρ : Sg) : aY f ρ = (f ρ).bind fun a => .ok (.rt a) := id rfl
@[simp] theorem aNT (ρ : Sg) : aL8 ρ = .ok (.rt (.d .none)) := id rfl
@[simp] theorem l6 (t : Sg -> R Bool) (f g : Sg -> R Fw) (ρ : Sg) : sIf t f g ρ = (t ρ).bind fun b => if b = true then f ρ else g ρ := id rfl
@[simp] theorem aOM {α : Type} (t : Sg -> R Bool) (f g : Sg -> R α) (ρ : Sg) : eIf t f g ρ = (t ρ).bind fun b => if b = true then f ρ else g ρ := id rfl
@[simp] theorem nE (i : Nat) (f : Sg -> R A) (ρ : Sg) : bN i f ρ = (f ρ).bind fun a => .ok (.nx (ρ.set i (some a))) := id rfl
@[simp] theorem j9 (i : Nat) (f : Sg -> R (List PyData)) (ρ : Sg) : cR i f ρ = (f ρ).bind fun xs => .ok (.nx (ρ.set i (some (.l xs)))) := id rfl
@[simp] theorem aNU (f : Sg -> R A) (ρ : Sg) : aFZ f ρ = (f ρ).bind fun _ => .ok (.nx ρ) := id rfl
@[simp] theorem aON (i : Nat) (f : Sg -> R Fw) (ρ : Sg) : sFz i f ρ = f (fz i ρ) := id rfl
@[simp] theorem aO6 (i : Nat) (ρ : Sg) : fz i ρ = match ρ[i]? with | some (some (.l xs)) => ρ.set i (some (.d (.list xs))) | _ => ρ := id rfl
@[simp] theorem uP (i : Nat) (f : Sg -> R PyData) (ρ : Sg) : dB i f ρ = match ρ[i]? with | some (some (.l xs)) => (f ρ).bind fun x => if xs.length < 16777216 then .ok (.nx (ρ.set i (some (.l (xs ++ [x]))))) else .bad | _ => .bad := id rfl
@[simp] theorem aN4 (fs : PyData -> Sg -> Option Sg) (f : Sg -> R PyData) (ρ : Sg) : j8 fs f ρ = (f ρ).bind fun x => (xA (fs x ρ)).bind fun ρ' => .ok (.nx ρ') := id rfl
@[simp] theorem qN (fi : Sg -> R (List PyData)) (fs : PyData -> Sg -> Option Sg) (fb : Sg -> R Fw) (ρ : Sg) : jT fi fs fb ρ = (fi ρ).bind fun xs => lY fs fb xs ρ := id rfl
@[simp] theorem aEY (js : List (Option Nat)) (fi : Sg -> R (List PyData)) (fs : PyData -> Sg -> Option Sg) (ft : Sg -> R Bool) (fe : Sg -> R PyData) (ρ : Sg) : fG js fi fs ft fe ρ = (fi ρ).bind fun xs => compL fs ft fe (f9 js ρ) xs := id rfl
@[simp] theorem aMU (cn : Str) (fs : List Str) (f : Sg -> R (List PyData)) (ρ : Sg) : aJX cn fs f ρ = (f ρ).bind fun xs => if xs.length = fs.length then .ex ⟨cn, fs.zip xs⟩ else .bad := id rfl
@[simp] theorem xT (i : Nat) (x : PyData) (ρ : Sg) : stN i x ρ = some (ρ.set i (some (.d x))) := id rfl
@[simp] theorem aOO (fs : List (PyData -> Sg -> Option Sg)) (xs : List PyData) (ρ : Sg) : stT fs (.tuple xs) ρ = stL fs xs ρ := id rfl
@[simp] theorem aN5 (ρ : Sg) : stL [] [] ρ = some ρ := id rfl
@[simp] theorem aNV (f : PyData -> Sg -> Option Sg) (fs : List (PyData -> Sg -> Option Sg)) (x : PyData) (xs : List PyData) (ρ : Sg) : stL (f :: fs) (x :: xs) ρ = (f x ρ).bind (stL fs xs) := id rfl
@[simp] theorem zY (ρ : Sg) : gS ρ = .ok true := id rfl
@[simp] theorem nF (b : Bool) : asB (.bool b) = .ok b := id rfl
@[simp] theorem zZ (f : Sg -> R Bool) (ρ : Sg) : gR f ρ = (f ρ).bind fun b => .ok (!b) := id rfl
@[simp] theorem z0 (f g : Sg -> R Bool) (ρ : Sg) : gG f g ρ = (f ρ).bind fun b => if b = true then g ρ else .ok false := id rfl
@[simp] theorem aKK (f g : Sg -> R Bool) (ρ : Sg) : bOr f g ρ = (f ρ).bind fun b => if b = true then .ok true else g ρ := id rfl
@[simp] theorem aN6 (f : Sg -> R PyData) (ρ : Sg) : aNK f ρ = (f ρ).bind fun x => (asB x).bind fun b => .ok (.bool (!b)) := id rfl
@[simp] theorem aN7 (f g : Sg -> R PyData) (ρ : Sg) : aA7 f g ρ = (f ρ).bind fun x => (asB x).bind fun b => if b = true then g ρ else .ok (.bool false) := id rfl
@[simp] theorem aOP (f g : Sg -> R PyData) (ρ : Sg) : eOr f g ρ = (f ρ).bind fun x => (asB x).bind fun b => if b = true then .ok (.bool true) else g ρ := id rfl
@[simp] theorem aOQ (g g' : PyData -> PyData -> R PyData) (fa fb fc : Sg -> R PyData) (ρ : Sg) : eCh g g' fa fb fc ρ = (fa ρ).bind fun x => (fb ρ).bind fun y => (g x y).bind fun z => (asB z).bind fun k => if k = true then (fc ρ).bind fun w => g' y w else .ok (.bool false) := id rfl
@[simp] theorem aKL {α : Type} (g : PyData -> Option Int -> Option Int -> R α) (f : Sg -> R PyData) (lo hi : Sg -> R (Option Int)) (ρ : Sg) : eSl g f lo hi ρ = (f ρ).bind fun x => (lo ρ).bind fun l => (hi ρ).bind fun h => g x l h := id rfl
@[simp] theorem aKM (ρ : Sg) : oNo ρ = .ok none := id rfl
@[simp] theorem aKN (f : Sg -> R PyData) (ρ : Sg) : oSo f ρ = (f ρ).bind fun x => match x with | .int i => .ok (some i) | _ => .bad := id rfl
@[simp] theorem tP (f : Sg -> R PyData) (ρ : Sg) : iH f ρ = (f ρ).bind fun x => match x with | .int j => jS 0 j | _ => .bad := id rfl
@[simp] theorem aMG (f g : Sg -> R PyData) (ρ : Sg) : aG3 f g ρ = (f ρ).bind fun x => (g ρ).bind fun y => match x, y with | .int i, .int j => jS i j | _, _ => .bad := id rfl
@[simp] theorem aN8 (f : Sg -> R PyData) (g : Sg -> R (Option Int)) (ρ : Sg) : aNN f g ρ = (f ρ).bind fun x => (g ρ).bind fun o => if o = some (-1) then aJZ x else .bad := id rfl
@[simp] theorem aN9 (i : Nat) (g : PyData -> PyData -> R PyData) (f : Sg -> R PyData) (ρ : Sg) : aNL i g f ρ = (eV i ρ).bind fun x => (f ρ).bind fun y => (g x y).bind fun z => .ok (.nx (ρ.set i (some (.d z)))) := id rfl
@[simp] theorem oG (i : Nat) (ρ : Sg) : iZ i ρ = .ok (.nx (ρ.set i (some (.m [])))) := id rfl
@[simp] theorem z4 (neg : Bool) (i : Nat) (f : Sg -> R PyData) (ρ : Sg) : gU neg i f ρ = (f ρ).bind fun k => match ρ[i]? with | some (some (.m kvs)) => if cQ k (kvs.map (·.1)) = true then .ok (.bool (if neg = true then !d9 kvs k else d9 kvs k)) else .bad | _ => .bad := id rfl
@[simp] theorem xU (i : Nat) (f : Sg -> R PyData) (ρ : Sg) : mK i f ρ = match ρ[i]? with | some (some (.m kvs)) => (f ρ).bind fun k => if cQ k (kvs.map (·.1)) = true then match iP kvs k with | some v => .ok v | none => .bad else .bad | _ => .bad := id rfl
@[simp] theorem aEZ (i : Nat) (f g : Sg -> R PyData) (ρ : Sg) : fH i f g ρ = (g ρ).bind fun v => match ρ[i]? with | some (some (.m kvs)) => (f ρ).bind fun k => if cQ k (kvs.map (·.1)) = true /\ kvs.length <= 16777216 then .ok (.nx (ρ.set i (some (.m (putM kvs k v))))) else .bad | _ => .bad := id rfl
@[simp] theorem tQ (i j : Int) : cN (.int i) (.int j) = .ok (.int (i + j)) := id rfl
@[simp] theorem aOR (i j : Int) : dSub (.int i) (.int j) = .ok (.int (i - j)) := id rfl
@[simp] theorem aOA (i j : Int) : aL7 (.int i) (.int j) = .ok (.int (i + j)) := id rfl
@[simp] theorem aOS (i : Int) : dNeg (.int i) = .ok (.int (-i)) := id rfl
@[simp] theorem aF5 (i j : Int) : dLt (.int i) (.int j) = .ok (.bool (decide (i < j))) := id rfl
@[simp] theorem aO7 (i j : Int) : dLe (.int i) (.int j) = .ok (.bool (decide (i <= j))) := id rfl
@[simp] theorem aO8 (i j : Int) : dGt (.int i) (.int j) = .ok (.bool (decide (j < i))) := id rfl
@[simp] theorem aO9 (i j : Int) : dGe (.int i) (.int j) = .ok (.bool (decide (j <= i))) := id rfl
theorem dL {i j : Int} (h : 0 < j) : dMod (.int i) (.int j) = .ok (.int (i % j)) := if_pos h
theorem iW {i j : Int} (h : 0 < j) (h2 : j < 18446744073709551616) : dDiv (.int i) (.int j) = .ok (.int (i / j)) := if_pos ⟨h, h2⟩
theorem pQ {i j : Int} (h : -18446744073709551616 < j) (h2 : j < 18446744073709551616) : dMul (.int i) (.int j) = .ok (.int (i * j)) := if_pos (.inr ⟨h, h2⟩)
theorem tR {i j : Int} (h : -18446744073709551616 < i) (h2 : i < 18446744073709551616) : dMul (.int i) (.int j) = .ok (.int (i * j)) := if_pos (.inl ⟨h, h2⟩)
@[simp] theorem gC (xs : List PyData) : dLen (.list xs) = .ok (.int xs.length) := id rfl
@[simp] theorem aKO (xs : List PyData) : dLen (.tuple xs) = .ok (.int xs.length) := id rfl
theorem xV {z : Str} (h : z.length <= 16777216) : dLen (.str z) = .ok (.int z.length) := if_pos h
@[simp] theorem aC5 (xs : List PyData) : dTup (.list xs) = .ok (.tuple xs) := id rfl
@[simp] theorem aOT (xs : List PyData) : dTup (.tuple xs) = .ok (.tuple xs) := id rfl
@[simp] theorem aOU (xs : List PyData) : aJW (.list xs) = .ok xs := id rfl
@[simp] theorem aOV (xs : List PyData) : aJW (.tuple xs) = .ok xs := id rfl
@[simp] theorem aOW (i : Int) : dInt (.int i) = .ok (.int i) := id rfl
@[simp] theorem aOX (b : Bool) : dInt (.bool b) = .ok (.int (if b = true then 1 else 0)) := id rfl
@[simp] theorem aMH (x : PyData) : dIs x .none = .ok (.bool (g4 x)) := id rfl
@[simp] theorem aOB (x : PyData) : dIsnt x .none = .ok (.bool (!g4 x)) := id rfl
@[simp] theorem aOC : g4 .none = true := id rfl
@[simp] theorem aOD (xs : List PyData) : g4 (.tuple xs) = false := id rfl
@[simp] theorem aOE (i : Int) : g4 (.int i) = false := id rfl
@[simp] theorem aOF (i : Str) : g4 (.str i) = false := id rfl
theorem nG {α : Type} {xs : List α} {i : Int} {v : α} (h0 : 0 <= i) (h : xs[i.toNat]? = some v) : atI xs i = some v := by
 obtain ⟨j, rfl⟩ : ∃ j : Nat, i = j := ⟨i.toNat, by omega⟩
 exact jE (j := j) h
theorem xW {α : Type} (x : α) (t : List α) : atI (x :: t) 0 = some x := jE (j := 0) rfl
theorem z5 {α : Type} (x y : α) (t : List α) : atI (x :: y :: t) 1 = some y := jE (j := 1) rfl
theorem aHQ {α : Type} (x y z : α) (t : List α) : atI (x :: y :: z :: t) 2 = some z := jE (j := 2) rfl
theorem oH {xs : List PyData} {i : Int} {v : PyData} (h : atI xs i = some v) : dIx (.tuple xs) (.int i) = .ok v := by show (match atI xs i with | some v => R.ok v | none => .bad) = _; rw [h]
theorem oI {xs : List PyData} {i : Int} {v : PyData} (h : atI xs i = some v) : dIx (.list xs) (.int i) = .ok v := by show (match atI xs i with | some v => R.ok v | none => .bad) = _; rw [h]
theorem aMI {z : Str} {i : Int} {u : Nat} (hz : z.length <= 16777216) (h : atI z.cps.toList i = some u) : dIx (.str z) (.int i) = .ok (.str ⟨#[u]⟩) := by
 show (if z.length <= sizeLine then match atI z.cps.toList i with | some u => R.ok (PyData.str ⟨#[u]⟩) | none => .bad else .bad) = _
 rw [eB, if_pos hz, h]
@[simp] theorem xX (x : PyData) (t : List PyData) : dIx (.tuple (x :: t)) (.int 0) = .ok x := oH (xW x t)
@[simp] theorem aKP (x y : PyData) (t : List PyData) : dIx (.tuple (x :: y :: t)) (.int 1) = .ok y := oH (z5 x y t)
@[simp] theorem aOY (x y z : PyData) (t : List PyData) : dIx (.tuple (x :: y :: z :: t)) (.int 2) = .ok z := oH (aHQ x y z t)
@[simp] theorem aKQ (x : PyData) (t : List PyData) : dIx (.list (x :: t)) (.int 0) = .ok x := oI (xW x t)
@[simp] theorem aKR (x y : PyData) (t : List PyData) : dIx (.list (x :: y :: t)) (.int 1) = .ok y := oI (z5 x y t)
theorem oJ {xs : List PyData} (h : xs.length <= 16777216) : bT (.tuple xs) = .ok xs := if_pos h
theorem kA {xs : List PyData} (h : xs.length <= 16777216) : bT (.list xs) = .ok xs := if_pos h
theorem aE0 {z : Str} (h : z.cps.toList.length <= 16777216) : bT (.str z) = .ok (z.cps.toList.map fun u => .str ⟨#[u]⟩) := if_pos h
theorem aC6 {x y : PyData} (hx : SeqAt.shaped x = true) (hy : SeqAt.shaped y = true) : dEq x y = .ok (.bool (PyData.eqv x y)) := if_pos ⟨hx, hy⟩
theorem aKS {x y : PyData} (hx : SeqAt.shaped x = true) (hy : SeqAt.shaped y = true) : dNe x y = .ok (.bool (!PyData.eqv x y)) := if_pos ⟨hx, hy⟩
@[simp] theorem aOZ (T : String) (i : Int) : dN T (.int i) = .ok (.bool (gT "int" T)) := id rfl
@[simp] theorem aO0 (T : String) (i : Str) : dN T (.str i) = .ok (.bool (gT "str" T)) := id rfl
@[simp] theorem aO1 (T : String) (i : List PyData) : dN T (.tuple i) = .ok (.bool (gT "tuple" T)) := id rfl
@[simp] theorem aO2 (T : String) (i : List PyData) : dN T (.list i) = .ok (.bool (gT "list" T)) := id rfl
@[simp] theorem aO3 (T : String) (i : Bool) : dN T (.bool i) = .ok (.bool (gT "bool" T)) := id rfl
@[simp] theorem aO4 (T : String) : dN T .none = .ok (.bool (gT "NoneType" T)) := id rfl
theorem aMJ {xs : List PyData} {lo hi : Option Int} (h : ¬ (HT.sIx xs.length 0 lo = 0 /\ HT.sIx xs.length xs.length hi = xs.length)) : dSl (.tuple xs) lo hi = .ok (.tuple (pJ xs lo hi)) := by
 unfold dSl; exact if_pos h
theorem aMK {z : Str} {lo hi : Option Int} (h : z.length <= 16777216) : dSl (.str z) lo hi = .ok (.str (Txt.slice z lo hi)) := by
 unfold dSl; exact if_pos h
theorem aKT {xs ys : List PyData} (h : xs.isEmpty = false) (h2 : xs.length + ys.length <= 16777216) : cN (.tuple xs) (.tuple ys) = .ok (.tuple (xs ++ ys)) := by
 unfold cN; exact if_pos ⟨h, by rw [eB]; exact h2⟩
theorem aKU {x y : Str} (h : x.length + y.length <= 16777216) : cN (.str x) (.str y) = .ok (.str (x ++ y)) := by
 unfold cN; exact if_pos (by rw [eB]; exact h)
theorem fQ {α : Type} {fs : PyData -> Sg -> Option Sg} {fe : Sg -> R PyData} {ρ0 : Sg} {d : α -> PyData} {g : α -> PyData} : ∀ {xs : List α}, (∀ x ∈ xs, ∃ ρ1, fs (d x) ρ0 = some ρ1 /\ fe ρ1 = .ok (g x)) -> compL fs gS fe ρ0 (xs.map d) = .ok (xs.map g)
 | [], _ => rfl
 | x :: t, h => by
  obtain ⟨ρ1, h1, h2⟩ := h x List.mem_cons_self
  rw [List.map_cons]
  unfold compL
  rw [h1, fQ fun y hy => h y (List.mem_cons_of_mem _ hy), pF, R.bind_ok, zY, R.noEx_ok, R.bind_ok, if_pos rfl, h2]; rfl
theorem i8 {α : Type} {fs : PyData -> Sg -> Option Sg} {fb : Sg -> R Fw} {d : α -> PyData} {xs : List α} {ρ : Sg} (J : Nat -> Sg -> Prop) (h0 : J 0 ρ) (hs : ∀ (i : Nat) (x : α) (ρ : Sg), xs[i]? = some x -> J i ρ -> ∃ ρ1 ρ2, fs (d x) ρ = some ρ1 /\ (fb ρ1 = .ok (.nx ρ2) \/ fb ρ1 = .ok (.ct ρ2)) /\ J (i + 1) ρ2) :
  ∃ ρ', lY fs fb (xs.map d) ρ = .ok (.nx ρ') /\ J xs.length ρ' := by
 induction xs generalizing ρ J with
 | nil => exact ⟨ρ, rfl, h0⟩
 | cons x t ih =>
  obtain ⟨ρ1, ρ2, h1, h2, h3⟩ := hs 0 x ρ rfl h0
  obtain ⟨ρ', q1, q2⟩ := ih (ρ := ρ2) (fun i => J (i + 1)) h3 (fun i y ρ hy hj => hs (i + 1) y ρ (by simpa using hy) hj)
  refine ⟨ρ', ?_, q2⟩
  rw [List.map_cons]
  unfold lY
  rw [h1, pF, R.bind_ok]
  rcases h2 with h2 | h2 <;> rw [h2] <;> exact q1
end Fl
namespace Fl
open PySem L2 PyProof.Rows
theorem hX {t : Sg -> R Bool} {b : Sg -> R Fw} {ρ ρ' : Sg} (h1 : t ρ = .ok true) (h2 : b ρ = .ok (.nx ρ')) : a9 t b ρ = a9 t b ρ' := by
 rw [pH, h1, R.bind_ok, if_pos rfl, h2]; rfl
theorem hZ {t : Sg -> R Bool} {b : Sg -> R Fw} {ρ : Sg} {a : A} (h1 : t ρ = .ok true) (h2 : b ρ = .ok (.rt a)) : a9 t b ρ = .ok (.rt a) := by
 rw [pH, h1, R.bind_ok, if_pos rfl, h2]; rfl
theorem fK {t : Sg -> R Bool} {b : Sg -> R Fw} {ρ : Sg} (h1 : t ρ = .ok false) : a9 t b ρ = .ok (.nx ρ) := by
 rw [pH, h1, R.bind_ok, if_neg (by decide)]
def been {α : Type} (d : α -> PyData) (ps : List α) : List (PyData × PyData) := ps.map fun p => (d p, .bool true)
theorem pR {α : Type} (d : α -> PyData) (ps : List α) : (been d ps).map (·.1) = ps.map d := by unfold been; rw [List.map_map]; rfl
theorem l7 {α : Type} {d : α -> PyData} (hd : ∀ a b, d a = d b -> a = b) {ps : List α} {p : α} : d9 (been d ps) (d p) = true ↔ p ∈ ps := by
 rw [rY, pR, List.mem_map]
 exact ⟨fun ⟨q, h1, h2⟩ => hd q p h2 ▸ h1, fun h => ⟨p, h, rfl⟩⟩
theorem gE {α : Type} {d : α -> PyData} (hd : ∀ a b, d a = d b -> a = b) {ps : List α} {p : α} (h : p ∉ ps) : d9 (been d ps) (d p) = false := by
 cases q : d9 (been d ps) (d p) with
 | false => rfl
 | true => exact absurd ((l7 hd).mp q) h
theorem kB {α : Type} {d : α -> PyData} (hd : ∀ a b, d a = d b -> a = b) {ps : List α} {p : α} (h : p ∉ ps) : putM (been d ps) (d p) (.bool true) = been d (ps ++ [p]) := by
 unfold putM
 rw [gE hd h, if_neg (by decide)]
 unfold been
 rw [List.map_append]; rfl
theorem iA {α : Type} {d : α -> PyData} (hk : ∀ a, iO (d a) = true) (ps : List α) (p : α) : cQ (d p) ((been d ps).map (·.1)) = true := by
 unfold cQ
 rw [pR, hk, Bool.true_and, Bool.or_eq_true, List.all_eq_true]
 refine .inl fun x hx => ?_
 obtain ⟨q, _, rfl⟩ := List.mem_map.mp hx
 exact hk q
theorem iB {α : Type} (d : α -> PyData) (ps : List α) : (been d ps).length = ps.length := by unfold been; rw [List.length_map]
def prD (p : Int × Int) : PyData := .tuple [.int p.1, .int p.2]
theorem jL (a b : Int × Int) (h : prD a = prD b) : a = b := by
 unfold prD at h
 injection h with h
 injection h with h1 h2
 injection h2 with h2 _
 injection h1 with h1
 injection h2 with h2
 exact Prod.ext h1 h2
theorem kC (a : Int × Int) : iO (prD a) = true := rfl
end Fl
namespace Mc
open PySem L2 PyProof.Rows Fl
theorem aHR {r : Rw} {rs : List Rw} : iJ [.d (bV (r :: rs))] = .ok (.d (.int r.c.length)) := by
 simp [iJ, oD, bV, cL]
theorem Mach.cons {rs : List Rw} {sg : Nat} (M : Mach rs sg) : ∃ r t, rs = r :: t /\ r.c.length = sg := by
 cases rs with
 | nil => have := M.len; simp at this
 | cons r t => exact ⟨r, t, rfl, (M.row r List.mem_cons_self).2⟩
def ck (k : Nat) (r : Rw) : Int × Int := r.c.getD k (0, 0)
theorem aHS {rs : List Rw} {sg k : Nat} (M : Mach rs sg) (hk : k < sg) : iK [.d (bV rs), .d (.int k)] = .ok (.d (.list (rs.map fun r => dS (ck k r)))) := by
 have h := fQ (fs := stN 0) (fe := e2 dIx (e2 dIx (rV 0) (eC (.int 1))) (rV 1)) (ρ0 := [none, some (.d (.int k))]) (d := cL) (g := fun r => dS (ck k r)) (xs := rs) fun r hr => by
  refine ⟨_, rfl, ?_⟩
  have e : dIx (.tuple (r.c.map dS)) (.int (k : Int)) = .ok (dS (ck k r)) := oH (jE (j := k) (by rw [List.getElem?_map, (lM M hr hk).1]; rfl))
  simp [cL, e]
 have hl : (rs.map cL).length <= 16777216 := by have := M.len2; rw [List.length_map]; omega
 simp [iK, oE, bV, oJ hl, f9, h]
theorem jM {n : Nat} (h : n <= 16777216) : jS 0 (n : Int) = .ok ((List.range n).map fun i : Nat => .int (i : Int)) := by
 unfold jS
 rw [if_pos (by omega)]
 unfold lX
 simp
theorem aC7 (z y : Str) : pK (.str z) (.str y) = match Builtin.Str.occurrences z y 0 z.length 1 with | i :: _ => R.ok (PyData.int i) | [] => .bad := rfl
theorem aHT {c : Nat} (h : dG 3 c = true) : pK (.str "abc") (.str ⟨#[c]⟩) = .ok (.int ((c - 97 : Nat) : Int)) := by
 obtain ⟨r, e⟩ := aCH h
 rw [aC7, e]
theorem aE1 {n c : Nat} (hn : n <= 3) (h : dG n c = true) : dG 3 c = true := decide_eq_true (by have := of_decide_eq_true h; omega)
end Mc
namespace Mc
open PySem L2 PyProof.Rows Fl
theorem tS (i : Int) : SeqAt.shaped (.int i) = true := id rfl
theorem aKV (i j : Int) : PyData.eqv (.int i) (.int j) = decide (i = j) := by
 rw [PyData.eqv.eq_5]
 by_cases h : i = j
 · simp [h]
 · simp [h]
theorem c9 (i j : Int) : dEq (.int i) (.int j) = .ok (.bool (decide (i = j))) := by rw [aC6 (tS i) (tS j), aKV]
end Mc
namespace Mc
open PySem L2 PyProof.Rows Fl
end Mc
namespace Mc
open PySem L2 PyProof.Rows Fl
def kM : Sg -> R Fw := (aD (bN 2 (vD (eC (.int 0))))
 (aD (sIf (e1 asB (e2 dGt (e1 dLen (rV 0)) (eC (.int 0)))) (bN 2 (vD (e2 dIx (rV 0) (e2 dMod (rV 1) (e1 dLen (rV 0)))))) sNx)
 (aD (bN 3 (vD (e2 dMod (e2 dMul (e2 cN (e2 cN (e2 dMod (rV 2) (eC (.int 2147483647))) (e2 dMul (eC (.int 7919)) (rV 1))) (eC (.int 1))) (eC (.int 48271))) (eC (.int 2147483647)))))
 (aY (vD (e2 cN (e2 dMul (e2 dDiv (rV 2) (eC (.int 2147483647))) (eC (.int 2147483659))) (e2 dMod (e2 cN (e2 dMul (rV 3) (eC (.int 69621))) (e2 dMul (eC (.int 104729)) (rV 1))) (eC (.int 2147483659)))))))))
def bP : List A -> R A := fnF 4 kM
def lG : Sg -> R Fw := (aD (sIf (e1 asB (e2 dEq (e2 dMod (rV 0) (eC (.int 3))) (eC (.int 0)))) (aY (vD (e2 dIx (eL (cY (aA (eC (.str "by")) (aA (eC (.str "out")) aG)))) (e2 dMod (e2 dDiv (rV 0) (eC (.int 3))) (eC (.int 2)))))) sNx)
 (aY (vD (e2 dMod (e2 dDiv (rV 0) (eC (.int 3))) (rV 1)))))
def fM : List A -> R A := fnF 2 lG
def i9 : Sg -> R Fw := (aD (bN 3 (vD (e2 dMod (rV 0) (e2 cN (rV 1) (eC (.int 2))))))
 (aD (bN 0 (vD (e2 dDiv (rV 0) (e2 cN (rV 1) (eC (.int 2))))))
 (aD (cR 4 (cY aG))
 (aD (jT (iH (rV 2)) (stN 5) (aD (dB 4 (cG (aA (e2 dMod (e2 dDiv (rV 0) (eC (.int 2))) (rV 1)) (aA (e2 dSub (eC (.int 1)) (e2 dMul (e2 dMod (rV 0) (eC (.int 2))) (eC (.int 2)))) aG))))
 (bN 0 (vD (e2 dDiv (rV 0) (e2 dMul (eC (.int 2)) (rV 1)))))))
 (aD (cR 6 (cY (aA (eV 3) (aA (e2 dMod (rV 0) (e2 cN (rV 1) (eC (.int 2)))) aG))))
 (aD (cR 6 (fG [none, some 1] (e1 bT (rV 6)) (stN 0) gS (eIf (e1 asB (e2 dGe (rV 0) (rV 1))) (e2 dIx (eL (cY (aA (eC (.str "by")) (aA (eC (.str "out")) aG)))) (e2 dSub (rV 0) (rV 1))) (eV 0))))
 (aY (vD (cG (aA (e2 dIx (rV 6) (eC (.int 0))) (aA (e1 dTup (rV 4)) (aA (e2 dIx (rV 6) (eC (.int 1))) aG))))))))))))
def d0 : List A -> R A := fnF 7 i9
def jA : Sg -> R Fw := (aD (cR 3 (cY aG))
 (aD (jT (iH (e2 cN (rV 2) (eC (.int 2)))) (stN 4) (aD (bN 0 (vD (e2 dMod (e2 cN (e2 dMul (rV 0) (eC (.int 48271))) (eC (.int 7919))) (eC (.int 2147483647)))))
 (dB 3 (e2 dDiv (rV 0) (eC (.int 64))))))
 (aD (bN 5 (vD (e1 dTup (eL (fG [none, some 1] (e1 bT (eSl dSl (rV 3) (oSo (eC (.int 2))) oNo)) (stN 0) gS (cG (aA (e2 dMod (rV 0) (rV 1)) (aA (e2 dSub (eC (.int 1)) (e2 dMul (e2 dDiv (e2 dMod (e2 dDiv (rV 0) (eC (.int 64))) (eC (.int 3))) (eC (.int 2))) (eC (.int 2)))) aG))))))))
 (aY (vD (cG (aA (eA (aV 2 fM (aA (vD (e2 dIx (rV 3) (eC (.int 0)))) (aA (vV 1) aG)))) (aA (eV 5) (aA (eA (aV 2 fM (aA (vD (e2 dIx (rV 3) (eC (.int 1)))) (aA (vV 1) aG)))) aG)))))))))
def dD : List A -> R A := fnF 6 jA
def kD : Sg -> R Fw := (aD (cR 4 (cY aG))
 (aD (jT (iH (rV 2)) (stN 5) (sIf (gG (e1 asB (e2 dLt (e2 cN (rV 1) (rV 5)) (e1 dLen (rV 0)))) (e1 asB (e2 dEq (e2 dMod (e2 dIx (rV 0) (eC (.int 0))) (eC (.int 2))) (eC (.int 1))))) (dB 4 (eA (aV 3 d0 (aA (vD (e2 dIx (rV 0) (e2 cN (rV 1) (rV 5)))) (aA (vV 2) (aA (vV 3) aG)))))) (aD (bN 6 (aV 3 dD (aA (vD (e2 dMod (eA (aV 2 bP (aA (vV 0) (aA (vD (e2 cN (rV 1) (rV 5))) aG)))) (eC (.int 2147483647)))) (aA (vV 2) (aA (vV 3) aG)))))
 (aD (sIf (gG (e1 asB (e2 dEq (rV 5) (eC (.int 0)))) (gG (e1 asB (e1 (dN "str") (e2 dIx (rV 6) (eC (.int 0))))) (e1 asB (e2 dGt (e2 dMod (e2 dDiv (eA (aV 2 bP (aA (vV 0) (aA (vV 1) aG)))) (eC (.int 8))) (eC (.int 8))) (eC (.int 0)))))) (bN 6 (vD (e2 cN (cG (aA (e2 dMod (e2 dDiv (eA (aV 2 bP (aA (vV 0) (aA (vV 1) aG)))) (eC (.int 64))) (rV 2)) aG)) (eSl dSl (rV 6) (oSo (eC (.int 1))) oNo)))) sNx)
 (dB 4 (eV 6))))))
 (aY (vD (e1 dTup (rV 4))))))
def eS : List A -> R A := fnF 7 kD
def rD : Sg -> R Fw := (aD (j8 (stT [(stN 3), (stN 4)]) (eV 2))
 (aD (j8 (stT [(stN 5), (stN 6), (stN 7)]) (e2 dIx (rV 0) (rV 4)))
 (aD (sIf (bOr (e1 asB (e2 dEq (rV 3) (eC (.int 0)))) (e1 asB (e2 dGt (rV 3) (e1 dLen (rV 1))))) (aD (bN 8 (vD (e2 dIx (eL (cY (aA (eV 5) (aA (eV 7) aG)))) (e1 dInt (e2 dGt (rV 3) (eC (.int 0)))))))
 (aD (sIf (e1 asB (e1 (dN "str") (rV 8))) (aY (vD (eC .none))) sNx)
 (aY (vD (cG (aA (e2 dIx (eL (cY (aA (eC (.int 1)) (aA (e1 dLen (rV 1)) aG)))) (e1 dInt (e2 dGt (rV 3) (eC (.int 0))))) (aA (eV 8) aG))))))) sNx)
 (aD (j8 (stT [(stN 8), (stN 9)]) (e2 dIx (rV 6) (e2 pK (eC (.str "abc")) (e2 dIx (rV 1) (e2 dSub (rV 3) (eC (.int 1)))))))
 (aY (vD (cG (aA (e2 cN (rV 3) (rV 9)) (aA (eV 8) aG)))))))))
def fR : List A -> R A := fnF 10 rD
def oS : Sg -> R Fw := (aD (cR 2 (cY (aA (cG (aA (eC (.int 0)) (aA (eC (.int 0)) aG))) aG)))
 (aD (iZ 3)
 (aD (a9 (e1 asB (gU true 3 (e2 dIx (rV 2) (e1 dNeg (eC (.int 1)))))) (aD (fH 3 (e2 dIx (rV 2) (e1 dNeg (eC (.int 1)))) (eC (.bool true)))
 (aD (bN 4 (aV 3 fR (aA (vV 0) (aA (vV 1) (aA (vD (e2 dIx (rV 2) (e1 dNeg (eC (.int 1))))) aG)))))
 (aD (sIf (e1 asB (e2 dIs (rV 4) (eC .none))) (sFz 2 (aY (vV 2))) sNx)
 (dB 2 (eV 4))))))
 (sFz 2 (aY (vV 2))))))
def kY : List A -> R A := fnF 5 oS
def rE : Sg -> R Fw := (aD (j8 (stT [(stN 2), (stN 3)]) (e2 dIx (eA (aV 2 kY (aA (vV 0) (aA (vV 1) aG)))) (e1 dNeg (eC (.int 1)))))
 (aD (sIf (e1 asB (e2 dIsnt (eA (aV 3 fR (aA (vV 0) (aA (vV 1) (aA (vD (cG (aA (eV 2) (aA (eV 3) aG)))) aG))))) (eC .none))) (aY (vD (eC (.str "ever")))) sNx)
 (aY (vD (e2 dIx (eL (cY (aA (e2 dIx (e2 dIx (rV 0) (rV 3)) (eC (.int 0))) (aA (e2 dIx (e2 dIx (rV 0) (rV 3)) (eC (.int 2))) aG)))) (e1 dInt (e2 dGt (rV 2) (eC (.int 0)))))))))
def iX : List A -> R A := fnF 4 rE
def oU : Sg -> R Fw := (aD (iZ 4)
 (aD (a9 (e1 asB (e2 dLe (rV 2) (e1 dLen (rV 1)))) (aD (sIf (e1 asB (gU false 4 (cG (aA (eV 2) (aA (eV 3) aG))))) (aY (vD (eC (.str "ever")))) sNx)
 (aD (fH 4 (cG (aA (eV 2) (aA (eV 3) aG))) (eC (.bool true)))
 (aD (sIf (gG (e1 asB (e2 dEq (rV 2) (eC (.int 0)))) (e1 asB (e1 (dN "str") (e2 dIx (e2 dIx (rV 0) (rV 3)) (eC (.int 0)))))) (aY (vD (e2 dIx (e2 dIx (rV 0) (rV 3)) (eC (.int 0))))) sNx)
 (j8 (stT [(stN 2), (stN 3)]) (eA (aV 3 fR (aA (vV 0) (aA (vV 1) (aA (vD (cG (aA (eV 2) (aA (eV 3) aG)))) aG))))))))))
 (aY (vV 3))))
def gP : List A -> R A := fnF 5 oU
def l8 : Sg -> R Fw := (aD (cR 2 (fG [none, some 0, some 1] (iH (e1 dLen (rV 0))) (stN 0) gS (eA (aV 4 gP (aA (vV 1) (aA (vV 2) (aA (vD (e1 dLen (rV 2))) (aA (vV 0) aG))))))))
 (aY (vD (cG (aA (eA (aV 4 gP (aA (vV 0) (aA (vV 1) (aA (vD (eC (.int 0))) (aA (vD (eC (.int 0))) aG)))))) (aA (e1 dTup (rV 2)) aG))))))
def dE : List A -> R A := fnF 3 l8
def rF : Sg -> R Fw := (aD (cR 3 (cY (aA (eC (.str "")) aG)))
 (aD (n9 4 (n8 (eA (aV 2 dE (aA (vV 0) (aA (vD (eC (.str ""))) aG)))) (eC (.int 0)) r0))
 (aD (cR 5 (cY aG))
 (aD (a9 (e1 asB (e2 dLt (e1 dLen (rV 5)) (e1 dLen (rV 3)))) (aD (cR 6 (cY aG))
 (aD (jT (e1 bT (eSl dSl (eC (.str "abc")) oNo (oSo (rV 1)))) (stN 7) (aD (bN 8 (vD (e2 cN (e2 dIx (rV 3) (e1 dLen (rV 5))) (rV 7))))
 (aD (bN 9 (aV 2 dE (aA (vV 0) (aA (vV 8) aG))))
 (aD (sIf (e1 asB (gU true 4 (eV 9))) (aD (fH 4 (eV 9) (e1 dLen (rV 3)))
 (dB 3 (eV 8))) sNx)
 (dB 6 (mK 4 (eV 9)))))))
 (aD (dB 5 (e1 dTup (rV 6)))
 (sIf (e1 asB (e2 dGt (e1 dLen (rV 3)) (rV 2))) (aY (vD (eC .none))) sNx)))))
 (sFz 3 (aY (vD (cG (aA (eV 3) (aA (e1 dTup (rV 5)) (aA (e1 dTup (eL (fG [none, some 0] (e1 bT (rV 3)) (stN 0) gS (eA (aV 2 iX (aA (vV 1) (aA (vV 0) aG))))))) aG)))))))))))
def kN : List A -> R A := fnF 10 rF
end Mc
namespace Mc
open PySem L2 PyProof.Rows Fl
def kE (ns : List Int) : PyData := .list (ns.map .int)
theorem nH (ns : List Int) : dLen (kE ns) = .ok (.int ns.length) := by unfold kE; rw [gC, List.length_map]
theorem xY {ns : List Int} {i : Int} (h0 : 0 <= i) (h1 : i < ns.length) : ∃ v, dIx (kE ns) (.int i) = .ok (.int v) := by
 refine ⟨ns[i.toNat]'(by omega), oI (nG h0 ?_)⟩
 rw [List.getElem?_map, List.getElem?_eq_getElem (by omega)]; rfl
theorem pS (ns : List Int) (k : Int) : ∃ v, bP [.d (kE ns), .d (.int k)] = .ok (.d (.int v)) := by
 by_cases h : (0 : Int) < ns.length
 ·obtain ⟨v, hv⟩ := xY (ns := ns) (i := k % (ns.length : Int)) (Int.emod_nonneg _ (by omega)) (Int.emod_lt_of_pos _ h)
  have hm : dMod (.int k) (.int (ns.length : Int)) = .ok (.int (k % (ns.length : Int))) := dL h
  have hd : 0 < ns.length := by omega
  refine ⟨v / 2147483647 * 2147483659 + ((v % 2147483647 + 7919 * k + 1) * 48271 % 2147483647 * 69621 + 104729 * k) % 2147483659, ?_⟩
  unfold bP kM
  simp [nH, hd, hm, hv, dL, pQ, tR, iW]
 ·have hd : ¬ 0 < ns.length := by omega
  refine ⟨((7919 * k + 1) * 48271 % 2147483647 * 69621 + 104729 * k) % 2147483659, ?_⟩
  unfold bP kM
  simp [nH, hd, dL, pQ, tR, iW]
theorem aKW (x y : PyData) (i : Int) : ∃ z, dIx (.list [x, y]) (.int (i % 2)) = .ok z /\ (z = x \/ z = y) := by
 rcases Int.emod_two_eq i with h | h
 · rw [h]; exact ⟨x, aKQ _ _, .inl rfl⟩
 · rw [h]; exact ⟨y, aKR _ _ _, .inr rfl⟩
theorem aF6 (x : Int) {n : Int} (hn : 0 < n) : ∃ t : Tn, fM [.d (.int x), .d (.int n)] = .ok (.d t.d) /\ t.good n := by
 by_cases h : x % 3 = 0
 ·obtain ⟨z, hz, hzz⟩ := aKW (.str "by") (.str "out") (x / 3)
  have hd : decide (x % 3 = 0) = true := decide_eq_true h
  have e : fM [.d (.int x), .d (.int n)] = .ok (.d z) := by
   unfold fM lG
   simp [dL, iW, c9, hd, hz]
  rcases hzz with rfl | rfl
  ·exact ⟨.w "by", e, .inl rfl⟩
  ·exact ⟨.w "out", e, .inr rfl⟩
 ·have hd : decide (x % 3 = 0) = false := decide_eq_false h
  refine ⟨.n (x / 3 % n), ?_, Int.emod_nonneg _ (by omega), Int.emod_lt_of_pos _ hn⟩
  unfold fM lG
  simp [dL, iW, c9, hd, hn]
  rfl
theorem z6 (x : Int) {n : Int} {sg : Nat} (hn : 0 < n) (hs : sg <= 1000) : ∃ r : Rw, dD [.d (.int x), .d (.int n), .d (.int sg)] = .ok (.d (cL r)) /\ r.good n /\ r.c.length = sg := by
 have hr : jS 0 ((sg : Int) + 2) = .ok ((List.range (sg + 2)).map fun i : Nat => .int (i : Int)) := by
  have := jM (n := sg + 2) (by omega)
  rw [show (((sg + 2 : Nat)) : Int) = (sg : Int) + 2 by omega] at this
  exact this
 obtain ⟨ρ', hf, y, ps, u4, hp, rfl⟩ := i8 (fs := stN 4) (fb := aD (bN 0 (vD (e2 dMod (e2 cN (e2 dMul (rV 0) (eC (.int 48271))) (eC (.int 7919))) (eC (.int 2147483647))))) (dB 3 (e2 dDiv (rV 0) (eC (.int 64)))))
  (d := fun i : Nat => .int (i : Int)) (xs := List.range (sg + 2)) (ρ := [some (.d (.int x)), some (.d (.int n)), some (.d (.int sg)), some (.l []), none, none])
  (fun i ρ => ∃ (y : Int) (ps : List Int) (u4 : Option A), ps.length = i /\ ρ = [some (.d (.int y)), some (.d (.int n)), some (.d (.int sg)), some (.l (ps.map .int)), u4, none]) ⟨x, [], none, rfl, rfl⟩
  (fun i k ρ hk hρ => by
   obtain ⟨y, ps, u4, hp, rfl⟩ := hρ
   have hi : i < sg + 2 := by have := (List.getElem?_eq_some_iff.mp hk).1; simpa using this
   refine ⟨_, _, rfl, .inl ?_, (y * 48271 + 7919) % 2147483647, ps ++ [(y * 48271 + 7919) % 2147483647 / 64], some (.d (.int k)), by simp [hp], rfl⟩
   have hl : (ps.map PyData.int).length < 16777216 := by rw [List.length_map, hp]; omega
   simp [pQ, tR, dL, iW, hl]
   omega)
 rw [List.length_range] at hp
 obtain ⟨p0, p1, qs, rfl, hq⟩ : ∃ p0 p1 qs, ps = p0 :: p1 :: qs /\ qs.length = sg := by
  match ps, hp with
  | p0 :: p1 :: qs, hp => exact ⟨p0, p1, qs, rfl, by simpa using hp⟩
 have hcut : dSl (.list ((p0 :: p1 :: qs).map .int)) (some 2) none = .ok (.list (qs.map .int)) := by
  show R.ok (PyData.list (pJ _ _ _)) = _
  unfold pJ HT.sIx
  simp
  rw [List.take_of_length_le (by simp)]
 obtain ⟨t0, e0, g0⟩ := aF6 p0 hn
 obtain ⟨t1, e1', g1⟩ := aF6 p1 hn
 have hc := fQ (fs := stN 0) (fe := cG (aA (e2 dMod (rV 0) (rV 1)) (aA (e2 dSub (eC (.int 1)) (e2 dMul (e2 dDiv (e2 dMod (e2 dDiv (rV 0) (eC (.int 64))) (eC (.int 3))) (eC (.int 2))) (eC (.int 2)))) aG))) (ρ0 := [none, some (.d (.int n))]) (d := PyData.int) (g := fun q => dS (q % n, 1 - q / 64 % 3 / 2 * 2)) (xs := qs) fun q _ => ⟨_, rfl, by simp [dL, iW, pQ, hn, dS]⟩
 have hi : bT (.list (qs.map .int)) = .ok (qs.map .int) := kA (by rw [List.length_map]; omega)
 refine ⟨⟨t0, qs.map fun q => (q % n, 1 - q / 64 % 3 / 2 * 2), t1⟩, ?_, ⟨g0, g1, fun c hc => ?_⟩, by simpa using hq⟩
 ·unfold dD jA
  simp only [kT, List.map_cons, List.map_nil, List.cons_append, List.nil_append, List.length_cons, List.length_nil, List.replicate, bL, j9, lN, gB, R.bind_ok]
  simp [hr]
  rw [hf]
  simp at hcut hi hc
  simp [hcut, hi, f9, hc, e0, e1', cL]
 ·obtain ⟨q, _, rfl⟩ := List.mem_map.mp hc
  refine ⟨Int.emod_nonneg _ (by omega), Int.emod_lt_of_pos _ hn, ?_⟩
  simp only
  omega
end Mc
namespace Mc
open PySem L2 PyProof.Rows Fl
theorem aHU (x : Int) {n : Int} {sg : Nat} (hn : 0 < n) (hn2 : n <= 1000) (hs : sg <= 1000) : ∃ r : Rw, d0 [.d (.int x), .d (.int n), .d (.int sg)] = .ok (.d (cL r)) /\ r.good n /\ r.c.length = sg := by
 have hr := jM (n := sg) (by omega)
 have hn3 : (0 : Int) < n + 2 := by omega
 have hn4 : n + 2 < 18446744073709551616 := by omega
 have h2n : (0 : Int) < 2 * n := by omega
 have h2n' : 2 * n < 18446744073709551616 := by omega
 obtain ⟨ρ', hf, y, cs, u5, hp, hg, rfl⟩ := i8 (fs := stN 5) (fb := aD (dB 4 (cG (aA (e2 dMod (e2 dDiv (rV 0) (eC (.int 2))) (rV 1)) (aA (e2 dSub (eC (.int 1)) (e2 dMul (e2 dMod (rV 0) (eC (.int 2))) (eC (.int 2)))) aG)))) (bN 0 (vD (e2 dDiv (rV 0) (e2 dMul (eC (.int 2)) (rV 1))))))
  (d := fun i : Nat => .int (i : Int)) (xs := List.range sg) (ρ := [some (.d (.int (x / (n + 2)))), some (.d (.int n)), some (.d (.int sg)), some (.d (.int (x % (n + 2)))), some (.l []), none, none])
  (fun i ρ => ∃ (y : Int) (cs : List (Int × Int)) (u5 : Option A), cs.length = i /\ (∀ c ∈ cs, j4 n c) /\ ρ = [some (.d (.int y)), some (.d (.int n)), some (.d (.int sg)), some (.d (.int (x % (n + 2)))), some (.l (cs.map dS)), u5, none]) ⟨x / (n + 2), [], none, rfl, fun c hc => by simp at hc, rfl⟩
  (fun i k ρ hk hρ => by
   obtain ⟨y, cs, u5, hp, hg, rfl⟩ := hρ
   have hi : i < sg := by have := (List.getElem?_eq_some_iff.mp hk).1; simpa using this
   have hl : (cs.map dS).length < 16777216 := by rw [List.length_map, hp]; omega
   refine ⟨_, _, rfl, .inl ?_, y / (2 * n), cs ++ [(y / 2 % n, 1 - y % 2 * 2)], some (.d (.int k)), by simp [hp], fun c hc => ?_, rfl⟩
   ·have hl' : cs.length < 16777216 := by omega
    simp [pQ, tR, dL, iW, hn, h2n, h2n', dS, hl']
   ·rcases List.mem_append.mp hc with z | z
    ·exact hg c z
    ·rw [List.mem_singleton.mp z]
     refine ⟨Int.emod_nonneg _ (by omega), Int.emod_lt_of_pos _ hn, ?_⟩
     simp only; omega)
 rw [List.length_range] at hp
 have key : ∀ e : Int, 0 <= e -> e < n + 2 -> ∃ t : Tn, (eIf (e1 asB (e2 dGe (rV 0) (rV 1))) (e2 dIx (eL (cY (aA (eC (.str "by")) (aA (eC (.str "out")) aG)))) (e2 dSub (rV 0) (rV 1))) (eV 0)) [some (.d (.int e)), some (.d (.int n))] = .ok t.d /\ t.good n := fun e h0 h1 => by
  by_cases h : n <= e
  ·obtain rfl | rfl : e = n \/ e = n + 1 := by omega
   ·exact ⟨.w "by", by simp [Tn.d], .inl rfl⟩
   ·exact ⟨.w "out", by simp [Tn.d, show n + 1 - n = 1 by omega, show n <= n + 1 by omega], .inr rfl⟩
  ·exact ⟨.n e, by simp [Tn.d, h], h0, by omega⟩
 obtain ⟨t0, e0, g0⟩ := key (x % (n + 2)) (Int.emod_nonneg _ (by omega)) (Int.emod_lt_of_pos _ hn3)
 obtain ⟨t1, e1', g1⟩ := key (y % (n + 2)) (Int.emod_nonneg _ (by omega)) (Int.emod_lt_of_pos _ hn3)
 have hc : compL (stN 0) gS (eIf (e1 asB (e2 dGe (rV 0) (rV 1))) (e2 dIx (eL (cY (aA (eC (.str "by")) (aA (eC (.str "out")) aG)))) (e2 dSub (rV 0) (rV 1))) (eV 0)) [none, some (.d (.int n))] [.int (x % (n + 2)), .int (y % (n + 2))] = .ok [t0.d, t1.d] := by
  simp only [compL, xT, List.set_cons_zero, pF, R.bind_ok, zY, R.noEx_ok, if_true, e0, e1']
 have hi : ∀ a b : PyData, bT (.list [a, b]) = .ok [a, b] := fun a b => kA (by simp)
 refine ⟨⟨t0, cs, t1⟩, ?_, ⟨g0, g1, hg⟩, hp⟩
 unfold d0 i9
 simp only [kT, List.map_cons, List.map_nil, List.cons_append, List.nil_append, List.length_cons, List.length_nil, List.replicate, bL, nE, oF, kL, iL, lF, List.getElem?_cons_zero, List.getElem?_cons_succ, R.bind_ok, tQ, dL hn3, iW hn3 hn4, List.set_cons_zero, List.set_cons_succ, j9, lN, gB, qN, tP, hr]
 simp only [Nat.zero_le, if_true, R.bind_ok, List.set_cons_zero, List.set_cons_succ, List.getElem?_cons_zero, List.getElem?_cons_succ, hr, hf]
 simp only [i7, wE, gB, kL, iL, lF, List.getElem?_cons_zero, List.getElem?_cons_succ, R.bind_ok, tQ, dL hn3, aEY, kK, List.set_cons_zero, List.set_cons_succ]
 simp [hi, f9, hc, cL, dL hn3]
theorem aKX {ns : List Int} {at' : Int} {n sg : Nat} (hat : 0 <= at') (h1 : 1 <= n) (h2 : n <= 1000) (s1 : 1 <= sg) (s3 : sg <= 3) : ∃ rs : List Rw, eS [.d (kE ns), .d (.int at'), .d (.int n), .d (.int sg)] = .ok (.d (bV rs)) /\ Mach rs sg /\ rs.length = n := by
 have hr := jM (n := n) (by omega)
 have hn : (0 : Int) < (n : Int) := by omega
 obtain ⟨ρ', hf, rs, u5, u6, hp, hg, rfl⟩ := i8 (fs := stN 5) (fb := (sIf (gG (e1 asB (e2 dLt (e2 cN (rV 1) (rV 5)) (e1 dLen (rV 0)))) (e1 asB (e2 dEq (e2 dMod (e2 dIx (rV 0) (eC (.int 0))) (eC (.int 2))) (eC (.int 1))))) (dB 4 (eA (aV 3 d0 (aA (vD (e2 dIx (rV 0) (e2 cN (rV 1) (rV 5)))) (aA (vV 2) (aA (vV 3) aG)))))) (aD (bN 6 (aV 3 dD (aA (vD (e2 dMod (eA (aV 2 bP (aA (vV 0) (aA (vD (e2 cN (rV 1) (rV 5))) aG)))) (eC (.int 2147483647)))) (aA (vV 2) (aA (vV 3) aG)))))
 (aD (sIf (gG (e1 asB (e2 dEq (rV 5) (eC (.int 0)))) (gG (e1 asB (e1 (dN "str") (e2 dIx (rV 6) (eC (.int 0))))) (e1 asB (e2 dGt (e2 dMod (e2 dDiv (eA (aV 2 bP (aA (vV 0) (aA (vV 1) aG)))) (eC (.int 8))) (eC (.int 8))) (eC (.int 0)))))) (bN 6 (vD (e2 cN (cG (aA (e2 dMod (e2 dDiv (eA (aV 2 bP (aA (vV 0) (aA (vV 1) aG)))) (eC (.int 64))) (rV 2)) aG)) (eSl dSl (rV 6) (oSo (eC (.int 1))) oNo)))) sNx)
 (dB 4 (eV 6))))))
  (d := fun i : Nat => .int (i : Int)) (xs := List.range n) (ρ := [some (.d (kE ns)), some (.d (.int at')), some (.d (.int n)), some (.d (.int sg)), some (.l []), none, none])
  (fun i ρ => ∃ (rs : List Rw) (u5 u6 : Option A), rs.length = i /\ (∀ r ∈ rs, r.good n /\ r.c.length = sg) /\ ρ = [some (.d (kE ns)), some (.d (.int at')), some (.d (.int n)), some (.d (.int sg)), some (.l (rs.map cL)), u5, u6]) ⟨[], none, none, rfl, fun c hc => by simp at hc, rfl⟩
  (fun i k ρ hk hρ => by
   obtain ⟨rs, u5, u6, hp, hg, rfl⟩ := hρ
   have hi : i < n := by have := (List.getElem?_eq_some_iff.mp hk).1; simpa using this
   have hl : rs.length < 16777216 := by omega
   have snoc : ∀ r : Rw, r.good n /\ r.c.length = sg -> ∀ x ∈ rs ++ [r], x.good n /\ x.c.length = sg := fun r hr x hx => by
    rcases List.mem_append.mp hx with z | z
    ·exact hg x z
    ·rw [List.mem_singleton.mp z]; exact hr
   obtain ⟨v, hv⟩ := pS ns (at' + k)
   obtain ⟨r, hr, gr⟩ := z6 (v % 2147483647) (n := (n : Int)) (sg := sg) hn (by omega)
   obtain ⟨v2, hv2⟩ := pS ns at'
   have hsl : ∀ r : Rw, dSl (cL r) (some 1) none = .ok (.tuple [.tuple (r.c.map dS), r.r.d]) := fun r => by
    unfold cL
    rw [aMJ (by unfold HT.sIx; simp)]
    unfold pJ HT.sIx
    simp
   have put : ∀ (u5 u6 : Option A) (r : Rw), (dB 4 (eV 6)) [some (.d (kE ns)), some (.d (.int at')), some (.d (.int n)), some (.d (.int sg)), some (.l (rs.map cL)), u5, some (.d (cL r))] = .ok (.nx [some (.d (kE ns)), some (.d (.int at')), some (.d (.int n)), some (.d (.int sg)), some (.l ((rs ++ [r]).map cL)), u5, some (.d (cL r))]) := fun u5 u6 r => by simp [hl]
   have mixed : ∀ ρ2, ρ2 = [some (.d (kE ns)), some (.d (.int at')), some (.d (.int n)), some (.d (.int sg)), some (.l (rs.map cL)), some (.d (.int k)), u6] -> ∃ r2 : Rw, (r2.good n /\ r2.c.length = sg) /\ ∃ u6', (aD (bN 6 (aV 3 dD (aA (vD (e2 dMod (eA (aV 2 bP (aA (vV 0) (aA (vD (e2 cN (rV 1) (rV 5))) aG)))) (eC (.int 2147483647)))) (aA (vV 2) (aA (vV 3) aG)))))
     (aD (sIf (gG (e1 asB (e2 dEq (rV 5) (eC (.int 0)))) (gG (e1 asB (e1 (dN "str") (e2 dIx (rV 6) (eC (.int 0))))) (e1 asB (e2 dGt (e2 dMod (e2 dDiv (eA (aV 2 bP (aA (vV 0) (aA (vV 1) aG)))) (eC (.int 8))) (eC (.int 8))) (eC (.int 0)))))) (bN 6 (vD (e2 cN (cG (aA (e2 dMod (e2 dDiv (eA (aV 2 bP (aA (vV 0) (aA (vV 1) aG)))) (eC (.int 64))) (rV 2)) aG)) (eSl dSl (rV 6) (oSo (eC (.int 1))) oNo)))) sNx)
     (dB 4 (eV 6)))) ρ2 = .ok (.nx [some (.d (kE ns)), some (.d (.int at')), some (.d (.int n)), some (.d (.int sg)), some (.l ((rs ++ [r2]).map cL)), some (.d (.int k)), u6']) := by
    rintro ρ2 rfl
    by_cases c1 : k = 0
    case neg =>
     exact ⟨r, gr, some (.d (cL r)), by simp [hv, dL, hr, c1, c9, hl]⟩
    subst c1
    obtain ⟨r, hr, gr⟩ := z6 (v2 % 2147483647) (n := (n : Int)) (sg := sg) hn (by omega)
    have hix : dIx (cL r) (.int 0) = .ok r.l.d := xX _ _
    have hty : ∃ b, dN "str" r.l.d = .ok (.bool b) := by cases r.l <;> exact ⟨_, rfl⟩
    obtain ⟨b, hb⟩ := hty
    have hadd : cN (.tuple [.int (v2 / 64 % (n : Int))]) (.tuple [.tuple (r.c.map dS), r.r.d]) = .ok (cL ⟨.n (v2 / 64 % (n : Int)), r.c, r.r⟩) := by
     rw [aKT rfl (by simp)]; rfl
    have good2 : (⟨.n (v2 / 64 % (n : Int)), r.c, r.r⟩ : Rw).good n /\ r.c.length = sg := ⟨⟨⟨Int.emod_nonneg _ (by omega), Int.emod_lt_of_pos _ hn⟩, gr.1.2.1, gr.1.2.2⟩, gr.2⟩
    cases hbb : b with
    | false =>
     subst hbb
     exact ⟨r, gr, some (.d (cL r)), by simp [hv2, dL, hr, c9, hix, hb, hl]⟩
    | true =>
     subst hbb
     by_cases c3 : 0 < v2 / 8 % 8
     ·refine ⟨⟨.n (v2 / 64 % (n : Int)), r.c, r.r⟩, good2, some (.d (cL ⟨.n (v2 / 64 % (n : Int)), r.c, r.r⟩)), ?_⟩
      simp [hv2, dL, dL hn, hr, c9, hix, hb, hl, iW, c3, hsl, hadd]
     ·exact ⟨r, gr, some (.d (cL r)), by simp [hv2, dL, hr, c9, hix, hb, hl, iW, c3]⟩
   obtain ⟨r2, g2, u6', hm⟩ := mixed _ rfl
   by_cases c1 : at' + (k : Int) < (ns.length : Int)
   ·obtain ⟨w0, hw0⟩ := xY (ns := ns) (i := 0) (Int.le_refl _) (by omega)
    by_cases c2 : w0 % 2 = 1
    ·obtain ⟨w1, hw1⟩ := xY (ns := ns) (i := at' + k) (by omega) c1
     obtain ⟨r3, hr3, g3⟩ := aHU w1 (n := (n : Int)) (sg := sg) hn (by omega) (by omega)
     refine ⟨_, _, rfl, .inl ?_, rs ++ [r3], some (.d (.int k)), u6, by simp [hp], snoc r3 g3, rfl⟩
     simp [nH, c1, hw0, dL, c2, c9, hw1, hr3, hl]
    ·refine ⟨_, _, rfl, .inl ?_, rs ++ [r2], some (.d (.int k)), u6', by simp [hp], snoc r2 g2, rfl⟩
     rw [<- hm]
     simp only [xT, List.set_cons_succ, List.set_cons_zero]
     rw [l6]
     simp only [z0, kK, kL, iL, lF, List.getElem?_cons_zero, List.getElem?_cons_succ, R.bind_ok, tQ, nH, aF5, nF, c1, decide_true, if_true, hw0, dL (show (0 : Int) < 2 by decide), c9, c2, decide_false, Bool.false_eq_true, if_false]
   ·refine ⟨_, _, rfl, .inl ?_, rs ++ [r2], some (.d (.int k)), u6', by simp [hp], snoc r2 g2, rfl⟩
    rw [<- hm]
    simp only [xT, List.set_cons_succ, List.set_cons_zero]
    rw [l6]
    simp only [z0, kK, kL, iL, lF, List.getElem?_cons_zero, List.getElem?_cons_succ, R.bind_ok, tQ, nH, aF5, nF, c1, decide_false, Bool.false_eq_true, if_false])
 rw [List.length_range] at hp
 refine ⟨rs, ?_, ⟨by omega, by omega, s1, s3, fun r hr => by rw [hp]; exact hg r hr⟩, hp⟩
 unfold eS kD
 simp only [kT, List.map_cons, List.map_nil, List.cons_append, List.nil_append, List.length_cons, List.length_nil, List.replicate, bL, j9, lN, gB, R.bind_ok, Nat.zero_le, if_true, List.set_cons_zero, List.set_cons_succ, qN, tP, iL, List.getElem?_cons_zero, List.getElem?_cons_succ, hr, hf]
 simp [bV]
end Mc
namespace Mc
open PySem L2 PyProof.Rows Fl
end Mc
namespace Mc
open PySem L2 PyProof.Rows
def bU (rs : List Rw) (z : List Nat) (s : Int × Int) : Option ((Int × Int) ⊕ Str) :=
 match (a8 rs z s).1 with
 | .w x => some (.inr x)
 | .n q => some (.inl (s.1 + (a8 rs z s).2, q))
theorem walk_step {rs : List Rw} {z : List Nat} {s : Int × Int} : (∃ x, dM rs z s = none /\ (a8 rs z s).1 = .w x /\ bU rs z s = some (.inr x)) \/ ∃ s', dM rs z s = some s' /\ bU rs z s = some (.inl s') := by
 unfold dM bU
 cases (a8 rs z s).1 with
 | w x => exact .inl ⟨x, rfl, rfl, rfl⟩
 | n q => exact .inr ⟨_, rfl, rfl⟩
theorem xZ (p : Prop) [Decidable p] : (if p then (1 : Int) else -1) = 1 \/ (if p then (1 : Int) else -1) = -1 := by
 split
 · exact .inl rfl
 · exact .inr rfl
def kO (r : Rw) (w : Int) : Tn := if w = -1 then r.l else r.r
def gD (rs : List Rw) (t : Tb) (s : Int × Int) : Option ((Int × Int) ⊕ Str) :=
 match kO (aO rs s.2) s.1 with
 | .w x => some (.inr x)
 | .n q => match t.at (-s.1) q with
  | none => none
  | some th => some (.inl th)
def plW (z : List Nat) (s : Int × Int) : Int × Int := (if s.1 = -1 then 0 else (z.length : Int) + 1, s.2)
theorem with_walk {rs : List Rw} {sg : Nat} {z : List Nat} {s : Int × Int} (M : Mach rs sg) (S : bI sg z) (V : kJ rs z s) :
  (∃ s', eK rs z s = some (.inl s') /\ kJ rs z s' /\ bU rs z s = some (.inl s')) \/ ∃ o, eK rs z s = some (.inr o) /\ bU rs z s = some (.inl (plW z o)) /\ gY rs.length o := by
 obtain ⟨ch, cc, a1, a2, a3, b1, b2, g1, g2, g3⟩ := vQ M S V
 obtain ⟨v1, v2, v3, v4⟩ := V
 have hc : a8 rs z s = (.n cc.1, cc.2) := by
  unfold a8
  rw [if_neg (by omega), if_neg (by omega), a3, b2]
 have hk : bU rs z s = some (.inl (s.1 + cc.2, cc.1)) := by unfold bU; rw [hc]
 have hw : eK rs z s = if 0 < s.1 + cc.2 /\ s.1 + cc.2 <= (z.length : Int) then some (.inl (s.1 + cc.2, cc.1)) else some (.inr ((if 0 < s.1 + cc.2 then 1 else -1), cc.1)) := by
  unfold eK
  rw [a3, b2]
 by_cases hin : 0 < s.1 + cc.2 /\ s.1 + cc.2 <= (z.length : Int)
 ·rw [if_pos hin] at hw
  exact .inl ⟨_, hw, ⟨by show 1 <= s.1 + cc.2; omega, hin.2, g1, g2⟩, hk⟩
 ·rw [if_neg hin] at hw
  refine .inr ⟨_, hw, ?_, ?_, g1, g2⟩
  ·rw [hk]
   unfold plW
   by_cases hp : 0 < s.1 + cc.2
   ·have e : s.1 + cc.2 = (z.length : Int) + 1 := by rcases g3 with g3 | g3 <;> omega
    simp [hp, e]
   ·have e : s.1 + cc.2 = 0 := by rcases g3 with g3 | g3 <;> omega
    simp [e]
  ·exact xZ _
theorem aHV {rs : List Rw} {sg : Nat} {z : List Nat} (M : Mach rs sg) (S : bI sg z) {n : Nat} {s : Int × Int} {o : Str} (V : kJ rs z s) (h : Ex (bU rs z) n s o) : ∃ k th n', Ex (eK rs z) k s th /\ gY rs.length th /\ n' < n /\ Ex (bU rs z) n' (plW z th) o := by
 induction h with
 | out h =>
  rcases with_walk M S V with ⟨s', _, _, e⟩ | ⟨o', _, e, _⟩
  ·rw [e] at h; cases h
  ·rw [e] at h; cases h
 | go h t ih =>
  rcases with_walk M S V with ⟨s', e1, V', e⟩ | ⟨o', e1, e, P⟩
  ·rw [e] at h; cases h
   obtain ⟨k, th, n', x1, x2, x3, x4⟩ := ih V'
   exact ⟨k + 1, th, n', .go e1 x1, x2, by omega, x4⟩
  ·rw [e] at h; cases h
   exact ⟨0, o', _, .out e1, P, Nat.lt_succ_self _, t⟩
theorem aE2 {rs : List Rw} {sg : Nat} {z : List Nat} (M : Mach rs sg) (S : bI sg z) {k : Nat} {s th : Int × Int} (V : kJ rs z s) (h : Ex (eK rs z) k s th) : gY rs.length th /\ ∃ j, Rc (bU rs z) j s (plW z th) := by
 induction h with
 | out h =>
  rcases with_walk M S V with ⟨s', e1, _, e⟩ | ⟨o', e1, e, P⟩
  ·rw [e1] at h; cases h
  ·rw [e1] at h; cases h
   exact ⟨P, 1, .cons e .nil⟩
 | go h t ih =>
  rcases with_walk M S V with ⟨s', e1, V', e⟩ | ⟨o', e1, e, P⟩
  ·rw [e1] at h; cases h
   obtain ⟨P, j, r⟩ := ih V'
   exact ⟨P, j + 1, .cons e r⟩
  ·rw [e1] at h; cases h
theorem x5 {rs : List Rw} {sg : Nat} {z : List Nat} (M : Mach rs sg) (S : bI sg z) {w q : Int} (hw : w = 1 \/ w = -1) (h0 : 0 <= q) (h1 : q < (rs.length : Int)) : (jW rs z).at (-w) q = i3 rs z (if w = -1 then 1 else (z.length : Int)) q := by
 obtain ⟨hf, ha⟩ := aBI M S
 have hl : q.toNat < rs.length := by omega
 unfold Tb.at
 rcases hw with rfl | rfl
 ·rw [if_neg (by decide), if_neg (by decide), ha, List.getD_eq_getElem?_getD, List.getElem?_map, List.getElem?_range hl]
  show i3 rs z _ ((q.toNat : Nat) : Int) = _
  rw [show ((q.toNat : Nat) : Int) = q by omega]
 ·rw [if_pos (by decide), if_pos rfl, hf, List.getD_eq_getElem?_getD, List.getElem?_map, List.getElem?_range hl]
  show i3 rs z _ ((q.toNat : Nat) : Int) = _
  rw [show ((q.toNat : Nat) : Int) = q by omega]
theorem mO {rs : List Rw} {z : List Nat} {s : Int × Int} (hw : s.1 = 1 \/ s.1 = -1) : a8 rs z (plW z s) = (kO (aO rs s.2) s.1, -s.1) := by
 unfold a8 plW kO
 rcases hw with h | h
 ·have : ((z.length : Int) + 1 = 0) = False := by simp; omega
  simp [h, this]
 ·simp [h]
theorem mP {rs : List Rw} {sg : Nat} (M : Mach rs sg) {s : Int × Int} (P : gY rs.length s) : (kO (aO rs s.2) s.1).good rs.length := by
 have hr := M.row _ (List.mem_of_getElem? (dH P.2.1 P.2.2))
 unfold kO
 split
 · exact hr.1.1
 · exact hr.1.2.1
theorem x6 {z : List Nat} {w : Int} (hw : w = 1 \/ w = -1) : (plW z (w, 0)).1 + -w = if w = -1 then 1 else (z.length : Int) := by
 unfold plW
 rcases hw with rfl | rfl
 · rw [if_neg (by decide), if_neg (by decide)]; simp only; omega
 · rw [if_pos rfl, if_pos rfl]; rfl
theorem tT {z : List Nat} {w q : Int} (hw : w = 1 \/ w = -1) (hin : ¬ (1 <= (if w = -1 then 1 else (z.length : Int)) /\ (if w = -1 then 1 else (z.length : Int)) <= (z.length : Int))) : plW z ((if 0 < (if w = -1 then 1 else (z.length : Int)) then 1 else -1), q) = ((if w = -1 then 1 else (z.length : Int)), q) := by
 have hz : z = [] := by
  rcases hw with rfl | rfl
  ·rw [if_neg (by decide)] at hin
   exact List.eq_nil_of_length_eq_zero (by omega)
  ·rw [if_pos rfl] at hin
   exact List.eq_nil_of_length_eq_zero (by omega)
 subst hz
 rcases hw with rfl | rfl
 ·simp [plW]
 ·simp [plW]
theorem aC8 {rs : List Rw} {sg : Nat} {z : List Nat} (M : Mach rs sg) (S : bI sg z) {s : Int × Int} (P : gY rs.length s) : aZ (gD rs (jW rs z)) s = aZ (bU rs z) (plW z s) := by
 refine iV fun o => ⟨?_, ?_⟩
 ·rintro ⟨n, h⟩
  induction h with
  | @out s o h =>
   refine ⟨0, .out ?_⟩
   unfold bU
   rw [mO P.1]
   unfold gD at h
   cases e : kO (aO rs s.2) s.1 with
   | w x => rw [e] at h; cases h; rfl
   | n q => rw [e] at h; simp only at h; split at h <;> cases h
  | @go s s' o n h t ih =>
   unfold gD at h
   have g := mP M P
   cases e : kO (aO rs s.2) s.1 with
   | w x => rw [e] at h; cases h
   | n q =>
    rw [e] at h g
    have hk : bU rs z (plW z s) = some (.inl ((if s.1 = -1 then 1 else (z.length : Int)), q)) := by
     unfold bU
     rw [mO P.1, e]
     have := x6 (z := z) P.1
     simp only [plW] at this ⊢
     rw [this]
    simp only [x5 M S P.1 g.1 g.2] at h
    unfold i3 at h
    by_cases hin : 1 <= (if s.1 = -1 then 1 else (z.length : Int)) /\ (if s.1 = -1 then 1 else (z.length : Int)) <= (z.length : Int)
    ·rw [if_pos hin] at h
     cases hr : aZ (eK rs z) ((if s.1 = -1 then 1 else (z.length : Int)), q) with
     | none => rw [hr] at h; cases h
     | some th =>
      rw [hr] at h; cases h
      obtain ⟨k, ex⟩ := ((d6 (eK rs z) _) s').mp hr
      obtain ⟨P', j, r⟩ := aE2 M S ⟨hin.1, hin.2, g.1, g.2⟩ ex
      obtain ⟨n', t'⟩ := ih P'
      exact ⟨_, .go hk (r.to t')⟩
    ·rw [if_neg hin] at h
     cases h
     have e2 := tT (z := z) (q := q) P.1 hin
     have P' : gY rs.length ((if 0 < (if s.1 = -1 then 1 else (z.length : Int)) then 1 else -1), q) := ⟨xZ _, g.1, g.2⟩
     obtain ⟨n', t'⟩ := ih P'
     rw [e2] at t'
     exact ⟨_, .go hk t'⟩
 ·rintro ⟨n, h⟩
  induction n using Nat.strongRecOn generalizing s with
  | _ n ih =>
   have g := mP M P
   cases e : kO (aO rs s.2) s.1 with
   | w x =>
    have hk : bU rs z (plW z s) = some (.inr x) := by unfold bU; rw [mO P.1, e]
    have : o = x := ((h.det (.out hk)).2)
    rw [this]
    exact ⟨0, .out (by unfold gD; rw [e])⟩
   | n q =>
    rw [e] at g
    have hk : bU rs z (plW z s) = some (.inl ((if s.1 = -1 then 1 else (z.length : Int)), q)) := by
     unfold bU
     rw [mO P.1, e]
     have := x6 (z := z) P.1
     simp only [plW] at this ⊢
     rw [this]
    have hs : gD rs (jW rs z) s = match i3 rs z (if s.1 = -1 then 1 else (z.length : Int)) q with | none => none | some th => some (.inl th) := by
     unfold gD
     rw [e]; simp only [x5 M S P.1 g.1 g.2]
    obtain ⟨m, hm, t⟩ := (Rc.cons hk .nil : Rc (bU rs z) 1 _ _).ex h
    unfold i3 at hs
    by_cases hin : 1 <= (if s.1 = -1 then 1 else (z.length : Int)) /\ (if s.1 = -1 then 1 else (z.length : Int)) <= (z.length : Int)
    ·rw [if_pos hin] at hs
     obtain ⟨k, th, n', x1, x2, x3, x4⟩ := aHV M S ⟨hin.1, hin.2, g.1, g.2⟩ t
     have hr : aZ (eK rs z) ((if s.1 = -1 then 1 else (z.length : Int)), q) = some th := ((d6 (eK rs z) _) th).mpr ⟨k, x1⟩
     rw [hr] at hs
     obtain ⟨n'', y⟩ := ih n' (by omega) x2 x4
     exact ⟨_, .go hs y⟩
    ·rw [if_neg hin] at hs
     have e2 := tT (z := z) (q := q) P.1 hin
     have P' : gY rs.length ((if 0 < (if s.1 = -1 then 1 else (z.length : Int)) then 1 else -1), q) := ⟨xZ _, g.1, g.2⟩
     rw [<- e2] at t
     obtain ⟨n'', y⟩ := ih m (by omega) P' t
     exact ⟨_, .go hs y⟩
theorem aBK {rs : List Rw} {sg : Nat} {t : Tb} (M : Mach rs sg) (G : t.good rs.length) {s s' : Int × Int} (P : gY rs.length s) (h : gD rs t s = some (.inl s')) : gY rs.length s' := by
 have g := mP M P
 unfold gD at h
 cases e : kO (aO rs s.2) s.1 with
 | w x => rw [e] at h; cases h
 | n q =>
  rw [e] at h g
  simp only at h
  have hg := (G.at (w := -s.1) g.1 g.2).2
  cases e2 : t.at (-s.1) q with
  | none => rw [e2] at h; cases h
  | some th => rw [e2] at h hg; cases h; exact hg
end Mc
namespace Mc
open PySem L2 PyProof.Rows Fl
theorem tU : gT "int" "str" = false := by decide
theorem tW : gT "str" "str" = true := by decide
theorem nI {rs : List Rw} {q : Int} (h0 : 0 <= q) (h1 : q < (rs.length : Int)) : dIx (bV rs) (.int q) = .ok (cL (aO rs q)) := oH (nG h0 (by rw [List.getElem?_map, dH h0 h1]; rfl))
def kZ : Option (Int × Int) -> PyData
 | none => .none
 | some s => prD s
theorem lO (z : Str) : z.length = z.cps.toList.length := by simp [Str.length]
theorem tX {rs : List Rw} {sg : Nat} {z : Str} (M : Mach rs sg) (S : bI sg z.cps.toList) {s : Int × Int} (V : gX rs z.cps.toList s) : fR [.d (bV rs), .d (.str z), .d (prD s)] = .ok (.d (kZ (dM rs z.cps.toList s))) := by
 obtain ⟨p, q⟩ := s
 have hr := nI V.2.2.1 V.2.2.2
 have hz : z.length <= 16777216 := by rw [lO]; have := S.1; omega
 have hl := xV hz
 rw [lO] at hl
 generalize hL : z.cps.toList = zl at *
 unfold fR rD
 by_cases h0 : p = 0
 ·subst h0
  have hst : dM rs zl (0, q) = match (aO rs q).l with | .w _ => none | .n q' => some (0 + 1, q') := by
   unfold dM a8; simp only [if_true] <;> (cases (aO rs q).l <;> rfl)
  cases e : (aO rs q).l with
  | w x =>
   rw [e] at hst
   rw [hst]
   simp [prD, hr, hl, cL, c9, e, Tn.d, tW, kZ]
  | n q' =>
   rw [e] at hst
   rw [hst]
   simp [prD, hr, hl, cL, c9, e, Tn.d, tU, kZ]
 ·by_cases h1 : p = (zl.length : Int) + 1
  ·have hst : dM rs zl (p, q) = match (aO rs q).r with | .w _ => none | .n q' => some (p + -1, q') := by
    unfold dM a8; simp only [if_neg h0, if_pos h1] <;> (cases (aO rs q).r <;> rfl)
   have hp : (0 : Int) < p := by omega
   have hgt : (zl.length : Int) < p := by omega
   cases e : (aO rs q).r with
   | w x =>
    rw [e] at hst
    rw [hst]
    simp [prD, hr, hl, cL, c9, e, Tn.d, tW, kZ, h0, hgt, hp]
   | n q' =>
    rw [e] at hst
    rw [hst]
    simp [prD, hr, hl, cL, c9, e, Tn.d, tU, kZ, h0, hgt, hp]
    omega
  ·obtain ⟨c, a1, a2, a3⟩ := uB S V h0 h1
   obtain ⟨cc, b1, b2, b3⟩ := rO M S V h0 h1
   have v1 := V.1
   have v2 := V.2.1
   simp only at v1 v2 a1 a3 b1 b2
   have hst : dM rs zl (p, q) = some (p + cc.2, cc.1) := by
    unfold dM a8; simp only [if_neg h0, if_neg h1, b2]
   have hgt : ¬ (zl.length : Int) < p := by omega
   have ix : dIx (.str z) (.int (p - 1)) = .ok (.str ⟨#[c]⟩) := aMI hz (nG (by omega) (by rw [hL, <- a1]; congr 1; omega))
   have id := aHT (aE1 M.sg3 a2)
   have ic : dIx (.tuple ((aO rs q).c.map dS)) (.int ((c - 97 : Nat) : Int)) = .ok (dS cc) := oH (jE (by rw [List.getElem?_map, <- a3, b1]; rfl))
   rw [hst]
   simp [prD, hr, hl, cL, c9, kZ, h0, hgt, ix, id, ic, dS]
theorem jB (xs : List PyData) (x : PyData) : dIx (.list (xs ++ [x])) (.int (-1)) = .ok x := oI (L2.aDZ xs x)
def sA : Sg -> R Bool := (e1 asB (gU true 3 (e2 dIx (rV 2) (e1 dNeg (eC (.int 1))))))
def sB : Sg -> R Fw := (aD (fH 3 (e2 dIx (rV 2) (e1 dNeg (eC (.int 1)))) (eC (.bool true)))
 (aD (bN 4 (aV 3 fR (aA (vV 0) (aA (vV 1) (aA (vD (e2 dIx (rV 2) (e1 dNeg (eC (.int 1))))) aG)))))
 (aD (sIf (e1 asB (e2 dIs (rV 4) (eC .none))) (sFz 2 (aY (vV 2))) sNx)
 (dB 2 (eV 4)))))
theorem aBL : oS = aD (cR 2 (cY (aA (cG (aA (eC (.int 0)) (aA (eC (.int 0)) aG))) aG))) (aD (iZ 3) (aD (a9 sA sB) (sFz 2 (aY (vV 2))))) := id rfl
def stρ (rs : List Rw) (z : Str) (ps : List (Int × Int)) (s : Int × Int) (u : Option A) : Sg := [some (.d (bV rs)), some (.d (.str z)), some (.l (ps.map prD ++ [prD s])), some (.m (been prD ps)), u]
theorem aKY {rs : List Rw} {z : Str} {ps : List (Int × Int)} {s : Int × Int} {u : Option A} (h : s ∈ ps) : sA (stρ rs z ps s u) = .ok false := by
 have h1 := iA kC ps s
 have h2 := (l7 jL).mpr h
 simp [sA, stρ, jB, h1, h2]
theorem z7 {rs : List Rw} {z : Str} {ps : List (Int × Int)} {s : Int × Int} {u : Option A} (h : s ∉ ps) : sA (stρ rs z ps s u) = .ok true := by
 have h1 := iA kC ps s
 have h2 := gE jL h
 simp [sA, stρ, jB, h1, h2]
theorem aC9 (s : Int × Int) : g4 (prD s) = false := id rfl
theorem aHW {rs : List Rw} {sg : Nat} {z : Str} (M : Mach rs sg) (S : bI sg z.cps.toList) {ps : List (Int × Int)} {s : Int × Int} {u : Option A} (V : gX rs z.cps.toList s) (h : s ∉ ps) (hp : ps.length <= 2000000) (e : dM rs z.cps.toList s = none) : sB (stρ rs z ps s u) = .ok (.rt (.d (.list ((ps ++ [s]).map prD)))) := by
 have h1 := iA kC ps s
 have h3 := kB jL h
 have h4 : (been prD ps).length <= 16777216 := by rw [iB]; omega
 have f := tX M S V
 rw [e] at f
 simp [sB, stρ, jB, h1, h3, h4, f, kZ]
theorem aKZ {rs : List Rw} {sg : Nat} {z : Str} (M : Mach rs sg) (S : bI sg z.cps.toList) {ps : List (Int × Int)} {s s' : Int × Int} {u : Option A} (V : gX rs z.cps.toList s) (h : s ∉ ps) (hp : ps.length <= 2000000) (e : dM rs z.cps.toList s = some s') : sB (stρ rs z ps s u) = .ok (.nx (stρ rs z (ps ++ [s]) s' (some (.d (prD s'))))) := by
 have h1 := iA kC ps s
 have h3 := kB jL h
 have h4 : (been prD ps).length <= 16777216 := by rw [iB]; omega
 have f := tX M S V
 rw [e] at f
 have h5 : ps.length + 1 < 16777216 := by omega
 simp [sB, stρ, jB, h1, h3, h4, f, kZ, aC9, h5]
def iQ (rs : List Rw) (z : List Nat) (s : Int × Int) : Prop := gX rs z s /\ ((dM rs z s = none /\ ∃ x, (a8 rs z s).1 = .w x /\ aZ (bU rs z) (0, 0) = some x) \/ ((∃ s', dM rs z s = some s') /\ aZ (bU rs z) (0, 0) = none))
theorem yT {rs : List Rw} {sg : Nat} {z : Str} (M : Mach rs sg) (S : bI sg z.cps.toList) : ∀ (k : Nat) (ps : List (Int × Int)) (s : Int × Int) (u : Option A), Way rs z.cps.toList ps s k -> Und2 (bU rs z.cps.toList) (0, 0) ps s ->
  aD (a9 sA sB) (sFz 2 (aY (vV 2))) (stρ rs z ps s u) = .ok (.rt (.d (.list ((lD rs z.cps.toList).map prD)))) /\ ∃ ps' s', lD rs z.cps.toList = ps' ++ [s'] /\ iQ rs z.cps.toList s' := by
 have hB : jP rs z.cps.toList <= 1002 * 1000 := Nat.mul_le_mul (by have := S.1; omega) M.len2
 have hin : ∀ (k : Nat) (ps : List (Int × Int)) (s : Int × Int) (u : Option A), Way rs z.cps.toList ps s k -> Und2 (bU rs z.cps.toList) (0, 0) ps s -> s ∈ ps -> aD (a9 sA sB) (sFz 2 (aY (vV 2))) (stρ rs z ps s u) = .ok (.rt (.d (.list ((lD rs z.cps.toList).map prD)))) /\ ∃ ps' s', lD rs z.cps.toList = ps' ++ [s'] /\ iQ rs z.cps.toList s' := by
  intro k ps s u W U hs
  refine ⟨?_, ps, s, (W.stop hs).symm, W.here, .inr ⟨?_, U.met hs⟩⟩
  ·rw [bL, fK (aKY hs), <- W.stop hs]
   simp [stρ]
  ·obtain ⟨m, r⟩ := U.back s hs
   cases r with
   | cons h t =>
    rcases walk_step (rs := rs) (z := z.cps.toList) (s := s) with ⟨x, _, _, e⟩ | ⟨s', e, _⟩
    · rw [e] at h; cases h
    · exact ⟨s', e⟩
 intro k
 induction k with
 | zero =>
  intro ps s u W U
  by_cases hs : s ∈ ps
  ·exact hin 0 ps s u W U hs
  ·obtain ⟨j, hj⟩ := W.more hs; omega
 | succ k ih =>
  intro ps s u W U
  by_cases hs : s ∈ ps
  ·exact hin _ ps s u W U hs
  ·have hp : ps.length <= 2000000 := by have := W.num; omega
   rcases walk_step (rs := rs) (z := z.cps.toList) (s := s) with ⟨x, e, e2, e3⟩ | ⟨s', e, e3⟩
   ·refine ⟨?_, ps, s, (W.ends hs e).symm, W.here, .inl ⟨e, x, e2, U.outs e3⟩⟩
    rw [bL, hZ (z7 hs) (aHW M S W.here hs hp e), <- W.ends hs e]; rfl
   ·have := ih (ps ++ [s]) s' (some (.d (prD s'))) (W.next M S hs e) (U.next hs e3)
    rw [bL] at this ⊢
    rw [hX (z7 hs) (aKZ M S W.here hs hp e)]
    exact this
theorem aE3 {rs : List Rw} {sg : Nat} {z : Str} (M : Mach rs sg) (S : bI sg z.cps.toList) : kY [.d (bV rs), .d (.str z)] = .ok (.d (.list ((lD rs z.cps.toList).map prD))) /\ ∃ ps' s', lD rs z.cps.toList = ps' ++ [s'] /\ iQ rs z.cps.toList s' := by
 have h := yT M S (jP rs z.cps.toList) [] (0, 0) none (Way.start M) Und2.start
 refine ⟨?_, h.2⟩
 unfold kY
 rw [aBL]
 simp only [kT, bL, j9, lN, i7, zX, lF, gB, R.bind_ok, List.length_cons, List.length_nil, Nat.reduceAdd, Nat.reduceLeDiff, if_true, List.map_cons, List.map_nil, List.cons_append, List.nil_append, List.replicate, List.set_cons_zero, List.set_cons_succ, oG]
 have e := h.1
 rw [bL] at e
 simp only [stρ, List.map_nil, List.nil_append, been, prD] at e
 rw [e]; rfl
def g5 (rs : List Rw) (z : List Nat) : Str := (aZ (bU rs z) (0, 0)).getD "ever"
theorem aK0 {rs : List Rw} {sg : Nat} {z : Str} (M : Mach rs sg) (S : bI sg z.cps.toList) : iX [.d (bV rs), .d (.str z)] = .ok (.d (.str (g5 rs z.cps.toList))) := by
 obtain ⟨h, ps, s, e, V, q⟩ := aE3 M S
 have f := tX M S V
 rw [e, List.map_append, List.map_cons, List.map_nil] at h
 have hr := nI V.2.2.1 V.2.2.2
 unfold iX rE g5
 obtain ⟨p, r⟩ := s
 rcases q with ⟨q1, x, q2, q3⟩ | ⟨⟨s', q1⟩, q3⟩
 ·rw [q1] at f
  rw [q3]
  have hw : (if 0 < p then (aO rs r).r else (aO rs r).l) = .w x := by
   unfold a8 at q2
   simp only at q2
   by_cases h0 : p = 0
   ·rw [if_pos h0] at q2; rw [if_neg (by omega)]; exact q2
   ·rw [if_neg h0] at q2
    have v1 := V.1
    simp only at v1
    rw [if_pos (by omega)]
    by_cases h1 : p = (z.cps.toList.length : Int) + 1
    · rw [if_pos h1] at q2; exact q2
    · rw [if_neg h1] at q2; cases q2
  simp only [prD] at f hr h
  by_cases hp : 0 < p
  ·rw [if_pos hp] at hw
   simp [h, jB, prD, f, kZ, hr, cL, hp, hw, Tn.d]
  ·rw [if_neg hp] at hw
   simp [h, jB, prD, f, kZ, hr, cL, hp, hw, Tn.d]
 ·rw [q1] at f
  rw [q3]
  simp only [prD] at f hr h
  simp [h, jB, prD, f, kZ]
end Mc
namespace Mc
open PySem L2 PyProof.Rows Fl
def qO (rs : List Rw) (t : Tb) : Str := (aZ (gD rs t) (-1, 0)).getD "ever"
theorem pair_start {rs : List Rw} {sg : Nat} (M : Mach rs sg) : gY rs.length (-1, 0) := ⟨.inr rfl, Int.le_refl _, by have := M.len; show (0 : Int) < _; omega⟩
theorem yU {rs : List Rw} {sg : Nat} {z : List Nat} (M : Mach rs sg) (S : bI sg z) : qO rs (jW rs z) = g5 rs z := by
 unfold qO g5
 rw [aC8 M S (pair_start M)]; rfl
theorem said_word {rs : List Rw} {sg : Nat} {t : Tb} (M : Mach rs sg) (G : t.good rs.length) {n : Nat} {s : Int × Int} {o : Str} (ex : Ex (gD rs t) n s o) (P : gY rs.length s) : o = "by" \/ o = "out" := by
 induction ex with
 | @out s o h =>
  have g := mP M P
  unfold gD at h
  cases e : kO (aO rs s.2) s.1 with
  | w x => rw [e] at h g; cases h; exact g
  | n q => rw [e] at h; simp only at h; split at h <;> cases h
 | go h t ih => exact ih (aBK M G P h)
theorem aE4 {rs : List Rw} {sg : Nat} {t : Tb} (M : Mach rs sg) (G : t.good rs.length) : qO rs t = "by" \/ qO rs t = "out" \/ qO rs t = "ever" := by
 unfold qO
 cases h : aZ (gD rs t) (-1, 0) with
 | none => exact .inr (.inr rfl)
 | some o =>
  obtain ⟨n, ex⟩ := ((d6 (gD rs t) _) o).mp h
  rcases said_word M G ex (pair_start M) with h | h
  · exact .inl h
  · exact .inr (.inl h)
end Mc
namespace Mc
open PySem L2 PyProof.Rows
section
variable {S T O Q : Type}
structure Gates (st : S -> Option (S ⊕ O)) (sub : S -> Option (S ⊕ Q)) (ext : Q -> T ⊕ O) (g : T -> S) (ent : T -> S ⊕ O) (Dom : S -> Prop) (TV : T -> Prop) : Prop where
 step : ∀ s, Dom s -> (∃ s', sub s = some (.inl s') /\ st s = some (.inl s') /\ Dom s') \/ (∃ e t, sub s = some (.inr e) /\ ext e = .inl t /\ st s = some (.inl (g t)) /\ TV t) \/ ∃ e o, sub s = some (.inr e) /\ ext e = .inr o /\ st s = some (.inr o)
 gate : ∀ t, TV t -> (∃ s, ent t = .inl s /\ st (g t) = some (.inl s) /\ Dom s) \/ ∃ o, ent t = .inr o /\ st (g t) = some (.inr o)
def gst (sub : S -> Option (S ⊕ Q)) (ext : Q -> T ⊕ O) (ent : T -> S ⊕ O) (ev : O) (t : T) : Option (T ⊕ O) := match ent t with
 | .inr o => some (.inr o)
 | .inl s => match aZ sub s with
  | none => some (.inr ev)
  | some e => some (ext e)
variable {st : S -> Option (S ⊕ O)} {sub : S -> Option (S ⊕ Q)} {ext : Q -> T ⊕ O} {g : T -> S} {ent : T -> S ⊕ O} {Dom : S -> Prop} {TV : T -> Prop}
theorem gI {st : S -> Option (S ⊕ O)} {s : S} {o : O} {n : Nat} (h : Ex st n s o) : aZ st s = some o := ((d6 st s) o).mpr ⟨n, h⟩
theorem fS {st : S -> Option (S ⊕ O)} {s : S} {o : O} (h : aZ st s = some o) : ∃ n, Ex st n s o := ((d6 st s) o).mp h
theorem Gates.in1 (G : Gates st sub ext g ent Dom TV) {k : Nat} {s : S} {e : Q} (d : Dom s) (h : Ex sub k s e) : (∀ t, ext e = .inl t -> Rc st (k + 1) s (g t) /\ TV t) /\ ∀ o, ext e = .inr o -> Ex st k s o := by
 induction h with
 | out h =>
  rcases G.step _ d with ⟨s', a, _⟩ | ⟨e', t, a, b, c, tv⟩ | ⟨e', o, a, b, c⟩
  ·rw [h] at a; cases a
  ·rw [h] at a; cases a
   exact ⟨fun t' z => by rw [b] at z; cases z; exact ⟨.cons c .nil, tv⟩, fun o z => by rw [b] at z; cases z⟩
  ·rw [h] at a; cases a
   exact ⟨fun t' z => (by rw [b] at z; cases z), fun o' z => by rw [b] at z; cases z; exact .out c⟩
 | go h t ih =>
  rcases G.step _ d with ⟨s', a, b, c⟩ | ⟨e', t, a, b, c, tv⟩ | ⟨e', o, a, b, c⟩
  ·rw [h] at a; cases a
   obtain ⟨i1, i2⟩ := ih c
   exact ⟨fun t' z => ⟨.cons b (i1 t' z).1, (i1 t' z).2⟩, fun o z => .go b (i2 o z)⟩
  ·rw [h] at a; cases a
  ·rw [h] at a; cases a
theorem Gates.in2 (G : Gates st sub ext g ent Dom TV) {n : Nat} {s : S} {o : O} (d : Dom s) (h : Ex st n s o) : ∃ k e, Ex sub k s e /\ ((∃ t n', ext e = .inl t /\ TV t /\ n' < n /\ Ex st n' (g t) o) \/ ext e = .inr o) := by
 induction h with
 | out h =>
  rcases G.step _ d with ⟨s', a, b, _⟩ | ⟨e', t, a, b, c, tv⟩ | ⟨e', o', a, b, c⟩
  ·rw [h] at b; cases b
  ·rw [h] at c; cases c
  ·rw [h] at c; cases c
   exact ⟨0, e', .out a, .inr b⟩
 | go h t ih =>
  rcases G.step _ d with ⟨s', a, b, c⟩ | ⟨e', t', a, b, c, tv⟩ | ⟨e', o', a, b, c⟩
  ·rw [h] at b; cases b
   obtain ⟨k, e, q, r⟩ := ih c
   refine ⟨k + 1, e, .go a q, r.imp ?_ id⟩
   rintro ⟨t, n', x1, x2, x3, x4⟩
   exact ⟨t, n', x1, x2, by omega, x4⟩
  ·rw [h] at c; cases c
   exact ⟨0, e', .out a, .inl ⟨t', _, b, tv, by omega, t⟩⟩
  ·rw [h] at c; cases c
theorem Gates.fwd (G : Gates st sub ext g ent Dom TV) (ev : O) : ∀ (n : Nat) {t : T} {o : O}, TV t -> Ex st n (g t) o -> ∃ m, Ex (gst sub ext ent ev) m t o := by
 intro n
 induction n using Nat.strongRecOn with
 | ind n ih =>
  intro t o tv h
  rcases G.gate t tv with ⟨s, a, b, c⟩ | ⟨o', a, b⟩
  ·cases h with
   | out h => rw [b] at h; cases h
   | go h q =>
    rw [b] at h; cases h
    obtain ⟨k, e, x, y⟩ := G.in2 c q
    have hr := gI x
    rcases y with ⟨t', n', y1, y2, y3, y4⟩ | y
    ·obtain ⟨m, hm⟩ := ih n' (by omega) y2 y4
     exact ⟨m + 1, .go (by unfold gst; rw [a]; simp only; rw [hr]; simp only; rw [y1]) hm⟩
    ·exact ⟨0, .out (by unfold gst; rw [a]; simp only; rw [hr]; simp only; rw [y])⟩
  ·cases h with
   | out h => rw [b] at h; cases h; exact ⟨0, .out (by unfold gst; rw [a])⟩
   | go h q => rw [b] at h; cases h
theorem Gates.bwd (G : Gates st sub ext g ent Dom TV) {ev : O} {m : Nat} {t : T} {o : O} (h : Ex (gst sub ext ent ev) m t o) (tv : TV t) : o = ev \/ ∃ n, Ex st n (g t) o := by
 induction h with
 | @out t o h =>
  rcases G.gate t tv with ⟨s, a, b, c⟩ | ⟨o', a, b⟩
  ·unfold gst at h
   rw [a] at h
   simp only at h
   cases e : aZ sub s with
   | none => rw [e] at h; cases h; exact .inl rfl
   | some x =>
    rw [e] at h
    have h' : ext x = .inr o := Option.some.inj h
    obtain ⟨k, hk⟩ := fS e
    exact .inr ⟨k + 1, .go b ((G.in1 c hk).2 o h')⟩
  ·unfold gst at h
   rw [a] at h
   cases h
   exact .inr ⟨0, .out b⟩
 | @go t t' o n h q ih =>
  rcases G.gate t tv with ⟨s, a, b, c⟩ | ⟨o', a, b⟩
  ·unfold gst at h
   rw [a] at h
   simp only at h
   cases e : aZ sub s with
   | none => rw [e] at h; cases h
   | some x =>
    rw [e] at h
    have h' : ext x = .inl t' := Option.some.inj h
    obtain ⟨k, hk⟩ := fS e
    obtain ⟨r1, r2⟩ := (G.in1 c hk).1 t' h'
    rcases ih r2 with z | ⟨n', z⟩
    · exact .inl z
    · exact .inr ⟨n' + (k + 1) + 1, .go b (r1.to z)⟩
  ·unfold gst at h
   rw [a] at h
   cases h
theorem Gates.eq (G : Gates st sub ext g ent Dom TV) (ev : O) {t : T} (tv : TV t) : (aZ st (g t)).getD ev = (aZ (gst sub ext ent ev) t).getD ev := by
 cases e : aZ st (g t) with
 | some o =>
  obtain ⟨n, h⟩ := fS e
  obtain ⟨m, hm⟩ := G.fwd ev n tv h
  rw [gI hm]
 | none =>
  cases e2 : aZ (gst sub ext ent ev) t with
  | none => rfl
  | some o =>
   obtain ⟨m, hm⟩ := fS e2
   rcases G.bwd hm tv with z | ⟨n, z⟩
   · rw [z]; rfl
   · rw [gI z] at e; cases e
theorem Gates.inn (G : Gates st sub ext g ent Dom TV) (ev : O) {s : S} (d : Dom s) : (aZ st s).getD ev = match aZ sub s with
  | none => ev
  | some e => match ext e with
   | .inr o => o
   | .inl t => (aZ (gst sub ext ent ev) t).getD ev := by
 cases e : aZ sub s with
 | none =>
  cases e2 : aZ st s with
  | none => rfl
  | some o =>
   obtain ⟨n, h⟩ := fS e2
   obtain ⟨k, x, hx, _⟩ := G.in2 d h
   rw [gI hx] at e; cases e
 | some x =>
  obtain ⟨k, hk⟩ := fS e
  obtain ⟨i1, i2⟩ := G.in1 d hk
  simp only
  cases q : ext x with
  | inr o => simp only; rw [gI (i2 o q)]; rfl
  | inl t =>
   simp only
   obtain ⟨r1, r2⟩ := i1 t q
   rw [<- G.eq ev r2]
   cases e2 : aZ st (g t) with
   | some o =>
    obtain ⟨n, h⟩ := fS e2
    rw [gI (r1.to h)]
   | none =>
    cases e3 : aZ st s with
    | none => rfl
    | some o =>
     obtain ⟨n, h⟩ := fS e3
     obtain ⟨n', _, z⟩ := r1.ex h
     rw [gI z] at e2; cases e2
end
def eM : Str := "ever"
def bW (rs : List Rw) (z : List Nat) (s : Int × Int) : Option ((Int × Int) ⊕ Tn) :=
 match (a8 rs z s).1 with
 | .w x => some (.inr (.w x))
 | .n q => if s.1 + (a8 rs z s).2 <= (z.length : Int) then some (.inl (s.1 + (a8 rs z s).2, q)) else some (.inr (.n q))
def kF (rs : List Rw) (z : List Nat) (s : Int × Int) : Prop := 0 <= s.1 /\ s.1 <= (z.length : Int) /\ 0 <= s.2 /\ s.2 < (rs.length : Int)
def cM (rs : List Rw) (q : Int) : Prop := 0 <= q /\ q < (rs.length : Int)
theorem kF.valid {rs : List Rw} {z : List Nat} {s : Int × Int} (h : kF rs z s) : gX rs z s := ⟨h.1, by have := h.2.1; omega, h.2.2⟩
def gJ (rs : List Rw) (z : List Nat) (s : Int × Int) : Tn := (aZ (bW rs z) s).getD (.w eM)
def fB (rs : List Rw) (z : List Nat) (q : Int) : Tn := gJ rs z ((z.length : Int), q)
theorem aDA {rs : List Rw} {z : List Nat} {c : Nat} {s : Int × Int} (h0 : 0 <= s.1) (h : s.1 <= (z.length : Int)) : a8 rs (z ++ [c]) s = a8 rs z s := by
 unfold a8
 by_cases h1 : s.1 = 0
 ·rw [if_pos h1, if_pos h1]
 ·rw [if_neg h1, if_neg h1, if_neg (by rw [List.length_append, List.length_singleton]; omega), if_neg (by omega)]
  have e : (z ++ [c]).getD (s.1.toNat - 1) 97 = z.getD (s.1.toNat - 1) 97 := by
   rw [List.getD_eq_getElem?_getD, List.getD_eq_getElem?_getD, List.getElem?_append_left (by omega)]
  rw [e]
theorem beg_cell {rs : List Rw} {sg : Nat} {z : List Nat} {s : Int × Int} (M : Mach rs sg) (S : bI sg z) (V : kF rs z s) : (∃ x, (a8 rs z s).1 = .w x /\ s.1 = 0) \/ ∃ q, (a8 rs z s).1 = .n q /\ cM rs q /\ 0 <= s.1 + (a8 rs z s).2 /\ s.1 + (a8 rs z s).2 <= (z.length : Int) + 1 := by
 cases e : (a8 rs z s).1 with
 | w x =>
  refine .inl ⟨x, rfl, ?_⟩
  by_cases h0 : s.1 = 0
  ·exact h0
  ·unfold a8 at e
   rw [if_neg h0, if_neg (by have := V.2.1; omega)] at e
   cases e
 | n q =>
  have hv : gX rs z (s.1 + (a8 rs z s).2, q) := sX M S V.valid (by unfold dM; rw [e])
  exact .inr ⟨q, rfl, ⟨hv.2.2.1, hv.2.2.2⟩, hv.1, hv.2.1⟩
def aK1 (e : Tn) : Int ⊕ Tn := match e with
 | .n q => .inl q
 | .w x => .inr (.w x)
def aK2 (e : Tn) : Int ⊕ Str := match e with
 | .n q => .inl q
 | .w x => .inr x
def x8 (rs : List Rw) (z : List Nat) (c : Nat) (q : Int) : (Int × Int) ⊕ Tn :=
 if ((aO rs q).c.getD (c - 97) (0, 0)).2 = 1 then .inr (.n ((aO rs q).c.getD (c - 97) (0, 0)).1) else .inl ((z.length : Int), ((aO rs q).c.getD (c - 97) (0, 0)).1)
theorem vR {rs : List Rw} {z : List Nat} {c : Nat} {q : Int} : a8 rs (z ++ [c]) ((z.length : Int) + 1, q) = (.n ((aO rs q).c.getD (c - 97) (0, 0)).1, ((aO rs q).c.getD (c - 97) (0, 0)).2) := by
 unfold a8
 have e : (z ++ [c]).getD (((z.length : Int) + 1).toNat - 1) 97 = c := by
  rw [show ((z.length : Int) + 1).toNat - 1 = z.length by omega, List.getD_eq_getElem?_getD, List.getElem?_append_right (Nat.le_refl _)]; simp
 rw [if_neg (show ¬ (z.length : Int) + 1 = 0 by omega), if_neg (by simp only [List.length_append, List.length_singleton]; omega)]
 simp only
 rw [e]
theorem vS {rs : List Rw} {sg : Nat} {z : List Nat} {c : Nat} (M : Mach rs sg) (S : bI sg z) (hc : dG sg c = true) : Gates (bW rs (z ++ [c])) (bW rs z) aK1 (fun q => ((z.length : Int) + 1, q)) (x8 rs z c) (kF rs z) (cM rs) where
 step := fun s V => by
  have ce := aDA (rs := rs) (c := c) V.1 V.2.1
  have hl : ((z ++ [c]).length : Int) = (z.length : Int) + 1 := by rw [List.length_append, List.length_singleton]; omega
  rcases beg_cell M S V with ⟨x, e, h0⟩ | ⟨q, e, rv, h1, h2⟩
  ·refine .inr (.inr ⟨.w x, .w x, ?_, rfl, ?_⟩)
   ·unfold bW; rw [e]
   ·unfold bW; rw [ce, e]
  ·by_cases h3 : s.1 + (a8 rs z s).2 <= (z.length : Int)
   ·refine .inl ⟨(s.1 + (a8 rs z s).2, q), ?_, ?_, h1, h3, rv⟩
    · unfold bW; rw [e]; simp only; rw [if_pos h3]
    · unfold bW; rw [ce, e]; simp only; rw [if_pos (by rw [hl]; omega)]
   ·refine .inr (.inl ⟨.n q, q, ?_, rfl, ?_, rv⟩)
    · unfold bW; rw [e]; simp only; rw [if_neg h3]
    · unfold bW; rw [ce, e]; simp only; rw [if_pos (by rw [hl]; omega), show s.1 + (a8 rs z s).2 = (z.length : Int) + 1 by omega]
 gate := fun q rv => by
  have hl : ((z ++ [c]).length : Int) = (z.length : Int) + 1 := by rw [List.length_append, List.length_singleton]; omega
  have hr := List.mem_of_getElem? (dH rv.1 rv.2)
  obtain ⟨_, cg⟩ := lM M hr (show c - 97 < sg by have := of_decide_eq_true hc; omega)
  obtain ⟨g1, g2, g3⟩ := cg
  rcases g3 with g3 | g3
  ·refine .inr ⟨.n _, by unfold x8; rw [if_pos g3], ?_⟩
   unfold bW; rw [vR]; simp only; rw [if_neg (by rw [hl, g3]; omega)]
  ·refine .inl ⟨((z.length : Int), ((aO rs q).c.getD (c - 97) (0, 0)).1), by unfold x8; rw [if_neg (by rw [g3]; decide)], ?_, ?_⟩
   ·unfold bW; rw [vR]; simp only; rw [if_pos (by rw [hl, g3]; omega), g3, show (z.length : Int) + 1 + -1 = z.length by omega]
   ·exact ⟨by show (0 : Int) <= z.length; omega, Int.le_refl _, g1, g2⟩
def eN (rs : List Rw) (bk : Int -> Tn) (c : Nat) (q : Int) : Option (Int ⊕ Tn) :=
 if ((aO rs q).c.getD (c - 97) (0, 0)).2 = 1 then some (.inr (.n ((aO rs q).c.getD (c - 97) (0, 0)).1)) else match bk ((aO rs q).c.getD (c - 97) (0, 0)).1 with
  | .n r => some (.inl r)
  | .w x => some (.inr (.w x))
def onR (rs : List Rw) (bk : Int -> Tn) (c : Nat) (t : Tn) : Tn := match t with
 | .w x => .w x
 | .n q => (aZ (eN rs bk c) q).getD (.w eM)
theorem aDB {rs : List Rw} {z : List Nat} {c : Nat} : gst (bW rs z) aK1 (x8 rs z c) (.w eM) = eN rs (fB rs z) c := by
 funext q
 unfold gst x8 eN fB gJ
 by_cases h : ((aO rs q).c.getD (c - 97) (0, 0)).2 = 1
 ·rw [if_pos h, if_pos h]
 ·rw [if_neg h, if_neg h]
  simp only
  cases aZ (bW rs z) ((z.length : Int), ((aO rs q).c.getD (c - 97) (0, 0)).1) with
  | none => rfl
  | some e => cases e <;> rfl
theorem aDC {rs : List Rw} {sg : Nat} {z : List Nat} {c : Nat} (M : Mach rs sg) (S : bI sg z) (hc : dG sg c = true) {q : Int} (rv : cM rs q) : fB rs (z ++ [c]) q = onR rs (fB rs z) c (.n q) := by
 have h := (vS M S hc).eq (.w eM) rv
 rw [aDB] at h
 unfold fB gJ onR
 rw [show ((z ++ [c]).length : Int) = (z.length : Int) + 1 by rw [List.length_append, List.length_singleton]; omega]
 exact h
theorem pT {rs : List Rw} {sg : Nat} (M : Mach rs sg) (z : List Nat) : kF rs z (0, 0) := ⟨Int.le_refl _, by show (0 : Int) <= z.length; omega, Int.le_refl _, by have := M.len; show (0 : Int) < rs.length; omega⟩
theorem aDD {rs : List Rw} {sg : Nat} {z : List Nat} {c : Nat} (M : Mach rs sg) (S : bI sg z) (hc : dG sg c = true) : gJ rs (z ++ [c]) (0, 0) = onR rs (fB rs z) c (gJ rs z (0, 0)) := by
 have h := (vS M S hc).inn (.w eM) (pT M z)
 rw [aDB] at h
 unfold gJ
 rw [h]
 cases aZ (bW rs z) (0, 0) with
 | none => rfl
 | some e => cases e <;> rfl
def eH (rs : List Rw) (bk : Int -> Tn) (q : Int) : Option (Int ⊕ Str) := match (aO rs q).r with
 | .w x => some (.inr x)
 | .n q' => match bk q' with
  | .n r => some (.inl r)
  | .w x => some (.inr x)
def wbR (rs : List Rw) (bk : Int -> Tn) (t : Tn) : Str := match t with
 | .w x => x
 | .n q => (aZ (eH rs bk) q).getD eM
def x9 (rs : List Rw) (z : List Nat) (q : Int) : (Int × Int) ⊕ Str := match (aO rs q).r with
 | .w x => .inr x
 | .n q' => .inl ((z.length : Int), q')
theorem vT {rs : List Rw} {z : List Nat} {q : Int} : a8 rs z ((z.length : Int) + 1, q) = ((aO rs q).r, -1) := by
 unfold a8
 rw [if_neg (show ¬ (z.length : Int) + 1 = 0 by omega), if_pos rfl]
theorem aBM {rs : List Rw} {sg : Nat} {z : List Nat} (M : Mach rs sg) (S : bI sg z) : Gates (bU rs z) (bW rs z) aK2 (fun q => ((z.length : Int) + 1, q)) (x9 rs z) (kF rs z) (cM rs) where
 step := fun s V => by
  rcases beg_cell M S V with ⟨x, e, h0⟩ | ⟨q, e, rv, h1, h2⟩
  ·refine .inr (.inr ⟨.w x, x, ?_, rfl, ?_⟩)
   ·unfold bW; rw [e]
   ·unfold bU; rw [e]
  ·by_cases h3 : s.1 + (a8 rs z s).2 <= (z.length : Int)
   ·refine .inl ⟨(s.1 + (a8 rs z s).2, q), ?_, ?_, h1, h3, rv⟩
    · unfold bW; rw [e]; simp only; rw [if_pos h3]
    · unfold bU; rw [e]
   ·refine .inr (.inl ⟨.n q, q, ?_, rfl, ?_, rv⟩)
    · unfold bW; rw [e]; simp only; rw [if_neg h3]
    · unfold bU; rw [e]; simp only; rw [show s.1 + (a8 rs z s).2 = (z.length : Int) + 1 by omega]
 gate := fun q rv => by
  have hr := List.mem_of_getElem? (dH rv.1 rv.2)
  have hg := (M.row _ hr).1.2.1
  cases e : (aO rs q).r with
  | w x => exact .inr ⟨x, by unfold x9; rw [e], by unfold bU; rw [vT]; simp only; rw [e]⟩
  | n q' =>
   rw [e] at hg
   refine .inl ⟨((z.length : Int), q'), by unfold x9; rw [e], ?_, ⟨by show (0 : Int) <= z.length; omega, Int.le_refl _, hg.1, hg.2⟩⟩
   unfold bU; rw [vT]; simp only; rw [e]; simp only; rw [show (z.length : Int) + 1 + -1 = z.length by omega]
theorem aK3 {rs : List Rw} {z : List Nat} : gst (bW rs z) aK2 (x9 rs z) eM = eH rs (fB rs z) := by
 funext q
 unfold gst x9 eH fB gJ
 cases (aO rs q).r with
 | w x => rfl
 | n q' =>
  simp only
  cases aZ (bW rs z) ((z.length : Int), q') with
  | none => rfl
  | some e => cases e <;> rfl
theorem aE5 {rs : List Rw} {sg : Nat} {z : List Nat} (M : Mach rs sg) (S : bI sg z) : (aZ (bU rs z) (0, 0)).getD eM = wbR rs (fB rs z) (gJ rs z (0, 0)) := by
 have h := (aBM M S).inn eM (pT M z)
 rw [aK3] at h
 rw [h]
 unfold gJ wbR
 cases aZ (bW rs z) (0, 0) with
 | none => rfl
 | some e => cases e <;> rfl
theorem z8 {rs : List Rw} {q : Int} : gJ rs [] (0, q) = (aO rs q).l := by
 have hc : a8 rs [] (0, q) = ((aO rs q).l, 1) := by unfold a8; rw [if_pos rfl]
 unfold gJ
 cases e : (aO rs q).l with
 | w x => rw [o8 (o := .w x) (by unfold bW; rw [hc, e])]; rfl
 | n q' =>
  rw [o8 (o := .n q') (by unfold bW; rw [hc, e]; simp only; rw [if_neg (by decide)])]; rfl
end Mc
namespace Mc
open PySem L2 PyProof.Rows Fl
def gK (f : Tn) (bk : List Tn) : PyData := .tuple [f.d, .tuple (bk.map Tn.d)]
def bkF (bk : List Tn) (q : Int) : Tn := bk.getD q.toNat (.w eM)
def tnV (m : Nat) : Tn -> Prop
 | .n i => 0 <= i /\ i < (m : Int)
 | .w _ => True
theorem iM (a b : Int) (h : PyData.int a = PyData.int b) : a = b := by injection h
theorem iN (ps : List Int) (q : Int) : cQ (.int q) ((been PyData.int ps).map (·.1)) = true := by
 unfold cQ
 rw [pR, Bool.or_eq_true]
 refine .inr ?_
 rw [show rQ (.int q) = true from rfl, Bool.true_and, List.all_eq_true]
 intro x hx
 obtain ⟨i, _, rfl⟩ := List.mem_map.mp hx
 rfl
theorem uQ (i : Int) : dJ [.d (.int i)] = .ok (.d (.bool false)) := by
 unfold dJ mL
 simp [tU]
theorem uR (x : Str) : dJ [.d (.str x)] = .ok (.d (.bool true)) := by
 unfold dJ mL
 simp [tW]
def fA (rs : List Rw) (k : Nat) : PyData := .list (rs.map fun r => dS (ck k r))
theorem yA {rs : List Rw} {k : Nat} {q : Int} (h0 : 0 <= q) (h1 : q < (rs.length : Int)) : dIx (fA rs k) (.int q) = .ok (dS (ck k (aO rs q))) := oI (nG h0 (by rw [List.getElem?_map, dH h0 h1]; rfl))
theorem aF7 {bk : List Tn} {q : Int} (h0 : 0 <= q) (h1 : q < (bk.length : Int)) : dIx (.tuple (bk.map Tn.d)) (.int q) = .ok (bkF bk q).d := by
 refine oH (nG h0 ?_)
 have hq : q.toNat < bk.length := by omega
 rw [List.getElem?_map, List.getElem?_eq_getElem hq]
 unfold bkF
 rw [List.getD_eq_getElem?_getD, List.getElem?_eq_getElem hq]; rfl
theorem qP {m : Nat} {bk : List Tn} (hv : ∀ t ∈ bk, tnV m t) (q : Int) : tnV m (bkF bk q) := by
 unfold bkF
 rw [List.getD_eq_getElem?_getD]
 cases e : bk[q.toNat]? with
 | none => exact trivial
 | some t => exact hv t (List.mem_of_getElem? e)
def oT : Sg -> R Bool := (gR (e1 asB (eA (aV 1 dJ (aA (vV 2) aG)))))
def oB : Sg -> R Fw := (aD (sIf (e1 asB (gU false 3 (eV 2))) (aY (vD (eC (.str "ever")))) sNx)
 (aD (fH 3 (eV 2) (eC (.bool true)))
 (aD (bN 4 (vD (e2 dIx (rV 1) (rV 2))))
 (aD (sIf (e1 asB (e2 dEq (e2 dIx (rV 4) (eC (.int 1))) (eC (.int 1)))) (aY (vD (e2 dIx (rV 4) (eC (.int 0))))) sNx)
 (bN 2 (vD (e2 dIx (rV 0) (e2 dIx (rV 4) (eC (.int 0))))))))))
theorem aK4 : pP = aD (iZ 3) (aD (a9 oT oB) (aY (vV 2))) := id rfl
def oρ (rs : List Rw) (bk : List Tn) (k : Nat) (t : Tn) (ps : List Int) (u : Option A) : Sg := [some (.d (.tuple (bk.map Tn.d))), some (.d (fA rs k)), some (.d t.d), some (.m (been PyData.int ps)), u]
theorem aK5 {rs : List Rw} {bk : List Tn} {k : Nat} {x : Str} {ps : List Int} {u : Option A} : oT (oρ rs bk k (.w x) ps u) = .ok false := by
 simp [oT, oρ, Tn.d, uR]
theorem aE6 {rs : List Rw} {bk : List Tn} {k : Nat} {q : Int} {ps : List Int} {u : Option A} : oT (oρ rs bk k (.n q) ps u) = .ok true := by
 simp [oT, oρ, Tn.d, uQ]
theorem aK6 {rs : List Rw} {bk : List Tn} {k : Nat} {q : Int} {ps : List Int} {u : Option A} (h : q ∈ ps) : oB (oρ rs bk k (.n q) ps u) = .ok (.rt (.d (.str "ever"))) := by
 have h1 := iN ps q
 have h2 := (l7 iM).mpr h
 simp [oB, oρ, Tn.d, h1, h2]
theorem aK7 {rs : List Rw} {bk : List Tn} {k : Nat} {q : Int} {ps : List Int} {u : Option A} (h : q ∉ ps) (rv : cM rs q) (hp : ps.length <= 16777216) (hc : (ck k (aO rs q)).2 = 1) : oB (oρ rs bk k (.n q) ps u) = .ok (.rt (.d (.int (ck k (aO rs q)).1))) := by
 have h1 := iN ps q
 have h2 := gE iM h
 have h4 : (been PyData.int ps).length <= 16777216 := by rw [iB]; exact hp
 have hi := yA (k := k) rv.1 rv.2
 simp [oB, oρ, Tn.d, h1, h2, h4, hi, dS, c9, hc]
theorem aML {rs : List Rw} {bk : List Tn} {k : Nat} {q : Int} {ps : List Int} {u : Option A} (h : q ∉ ps) (rv : cM rs q) (hp : ps.length <= 16777216) (hc : (ck k (aO rs q)).2 ≠ 1) (h0 : 0 <= (ck k (aO rs q)).1) (hl : (ck k (aO rs q)).1 < (bk.length : Int)) : oB (oρ rs bk k (.n q) ps u) = .ok (.nx (oρ rs bk k (bkF bk (ck k (aO rs q)).1) (ps ++ [q]) (some (.d (dS (ck k (aO rs q))))))) := by
 have h1 := iN ps q
 have h2 := gE iM h
 have h3 := kB iM h
 have h4 : (been PyData.int ps).length <= 16777216 := by rw [iB]; exact hp
 have hi := yA (k := k) rv.1 rv.2
 have hb := aF7 h0 hl
 simp [oB, oρ, Tn.d, h1, h2, h3, h4, hi, dS, c9, hc, hb]
theorem qQ {m : Nat} {l : List Int} (hn : l.Nodup) (hv : ∀ q ∈ l, 0 <= q /\ q < (m : Int)) : l.length <= m :=
 aCI (fun q : Int => q.toNat) m l hn (fun q hq => by have := hv q hq; show q.toNat < m; omega) (fun a ha b hb e => by
  have h1 := hv a ha
  have h2 := hv b hb
  have e' : a.toNat = b.toNat := e
  omega)
theorem z9 {rs : List Rw} {bk : Int -> Tn} {c : Nat} {q : Int} : eN rs bk c q = if (ck (c - 97) (aO rs q)).2 = 1 then some (.inr (.n (ck (c - 97) (aO rs q)).1)) else match bk (ck (c - 97) (aO rs q)).1 with
 | .n r => some (.inl r)
 | .w x => some (.inr (.w x)) := id rfl
theorem aHX {rs : List Rw} {sg c : Nat} {bk : List Tn} (M : Mach rs sg) (hc : dG sg c = true) (hb : bk.length = rs.length) (hv : ∀ t ∈ bk, tnV rs.length t) {q0 : Int} : ∀ (n : Nat) (ps : List Int) (q : Int) (u : Option A), Und2 (eN rs (bkF bk) c) q0 ps q -> (∀ p ∈ ps, cM rs p) -> cM rs q -> rs.length + 1 <= ps.length + n ->
  aD (a9 oT oB) (aY (vV 2)) (oρ rs bk (c - 97) (.n q) ps u) = .ok (.rt (.d ((aZ (eN rs (bkF bk) c) q0).getD (.w eM)).d)) := by
 intro n
 induction n with
 | zero =>
  intro ps q u U pv rv hn
  have := qQ U.nd pv
  omega
 | succ n ih =>
  intro ps q u U pv rv hn
  rw [bL]
  by_cases hs : q ∈ ps
  ·rw [hZ aE6 (aK6 hs), U.met hs]; rfl
  ·have hl : ps.length <= rs.length := qQ U.nd pv
   have hp : ps.length <= 16777216 := by have := M.len2; omega
   have hr := List.mem_of_getElem? (dH rv.1 rv.2)
   obtain ⟨_, cg⟩ := lM M hr (show c - 97 < sg by have := of_decide_eq_true hc; omega)
   have cg : j4 rs.length (ck (c - 97) (aO rs q)) := cg
   obtain ⟨g1, g2, g3⟩ := cg
   by_cases h1 : (ck (c - 97) (aO rs q)).2 = 1
   ·have st : eN rs (bkF bk) c q = some (.inr (.n (ck (c - 97) (aO rs q)).1)) := by unfold eN; exact if_pos h1
    rw [hZ aE6 (aK7 hs rv hp h1), U.outs st]; rfl
   ·rw [hX aE6 (aML hs rv hp h1 g1 (by rw [hb]; exact g2))]
    have gd := qP hv (ck (c - 97) (aO rs q)).1
    cases e : bkF bk (ck (c - 97) (aO rs q)).1 with
    | w x =>
     have st : eN rs (bkF bk) c q = some (.inr (.w x)) := by rw [z9, if_neg h1, e]
     rw [fK aK5, U.outs st]
     simp [oρ, Tn.d]
    | n r =>
     rw [e] at gd
     have st : eN rs (bkF bk) c q = some (.inl r) := by rw [z9, if_neg h1, e]
     have := ih (ps ++ [q]) r (some (.d (dS (ck (c - 97) (aO rs q))))) (U.next hs st) (fun p hp => by
      rcases List.mem_append.mp hp with z | z
      · exact pv p z
      · rw [List.mem_singleton.mp z]; exact rv) gd (by rw [List.length_append, List.length_singleton]; omega)
     rw [bL] at this
     exact this
theorem aK8 {rs : List Rw} {sg c : Nat} {bk : List Tn} (M : Mach rs sg) (hc : dG sg c = true) (hb : bk.length = rs.length) (hv : ∀ t ∈ bk, tnV rs.length t) {t : Tn} (ht : tnV rs.length t) : hV [.d (.tuple (bk.map Tn.d)), .d (fA rs (c - 97)), .d t.d] = .ok (.d (onR rs (bkF bk) c t).d) := by
 have key : aD (a9 oT oB) (aY (vV 2)) (oρ rs bk (c - 97) t [] none) = .ok (.rt (.d (onR rs (bkF bk) c t).d)) := by
  cases t with
  | w x =>
   rw [bL, fK aK5]
   simp [oρ, Tn.d, onR]
  | n q => exact aHX M hc hb hv (rs.length + 1) [] q none Und2.start (fun p hp => by simp at hp) ht (by simp)
 unfold hV
 rw [aK4]
 simp only [kT, bL, oG, R.bind_ok, List.length_cons, List.length_nil, Nat.reduceAdd, List.map_cons, List.map_nil, List.cons_append, List.nil_append, List.replicate, List.set_cons_zero, List.set_cons_succ]
 rw [bL] at key
 simp only [oρ, been, List.map_nil] at key
 rw [key]; rfl
theorem aMM {rs : List Rw} {sg c : Nat} {bk : List Tn} (M : Mach rs sg) (hc : dG sg c = true) (hb : bk.length = rs.length) (hv : ∀ t ∈ bk, tnV rs.length t) {t : Tn} (ht : tnV rs.length t) :
  gH [.d (gK t bk), .d (fA rs (c - 97))] = .ok (.d (gK (onR rs (bkF bk) c t) ((List.range rs.length).map fun q : Nat => onR rs (bkF bk) c (.n (q : Int))))) := by
 have h := fQ (fs := stN 0) (fe := eA (aV 3 hV (aA (vD (e2 dIx (rV 1) (eC (.int 1)))) (aA (vV 2) (aA (vV 0) aG))))) (ρ0 := [none, some (.d (gK t bk)), some (.d (fA rs (c - 97)))]) (d := fun i : Nat => .int (i : Int)) (g := fun i : Nat => (onR rs (bkF bk) c (.n (i : Int))).d) (xs := List.range rs.length) fun i hi => by
  refine ⟨_, rfl, ?_⟩
  have := aK8 M hc hb hv (t := .n (i : Int)) ⟨by omega, by have := List.mem_range.mp hi; omega⟩
  have e : (Tn.n (i : Int)).d = .int i := rfl
  rw [e] at this
  simp [gK, this]
 have hr := jM (n := rs.length) (by have := M.len2; omega)
 have hl : dLen (fA rs (c - 97)) = .ok (.int rs.length) := by unfold fA; rw [gC, List.length_map]
 have h1 := aK8 M hc hb hv ht
 have h0 : dIx (gK t bk) (.int 0) = .ok t.d := xX _ _
 have h2 : dIx (gK t bk) (.int 1) = .ok (.tuple (bk.map Tn.d)) := aKP _ _ _
 unfold gH r9
 simp [h0, h2, h1, hl, hr, f9, h]
 unfold gK
 rw [List.map_map]; rfl
def aP (rs : List Rw) (z : List Nat) : PyData := gK (gJ rs z (0, 0)) ((List.range rs.length).map fun q : Nat => fB rs z (q : Int))
theorem kG {rs : List Rw} {sg : Nat} {z : List Nat} (M : Mach rs sg) (S : bI sg z) {s : Int × Int} (V : kF rs z s) : tnV rs.length (gJ rs z s) := by
 unfold gJ
 cases e : aZ (bW rs z) s with
 | none => exact trivial
 | some t =>
  obtain ⟨n, h⟩ := fS e
  show tnV rs.length t
  clear e
  induction h with
  | @out s o h =>
   unfold bW at h
   rcases beg_cell M S V with ⟨x, e, h0⟩ | ⟨q, e, rv, h1, h2⟩
   ·rw [e] at h; cases h; exact trivial
   ·rw [e] at h
    simp only at h
    split at h
    · cases h
    · cases h; exact rv
  | @go s s' o n h t ih =>
   refine ih ?_
   unfold bW at h
   rcases beg_cell M S V with ⟨x, e, h0⟩ | ⟨q, e, rv, h1, h2⟩
   ·rw [e] at h; cases h
   ·rw [e] at h
    simp only at h
    split at h
    · rename_i h3; cases h; exact ⟨h1, h3, rv⟩
    · cases h
theorem wF {rs : List Rw} {z : List Nat} {q : Nat} (h : q < rs.length) : kF rs z ((z.length : Int), (q : Int)) := ⟨by show (0 : Int) <= z.length; omega, Int.le_refl _, by show (0 : Int) <= q; omega, by show (q : Int) < rs.length; omega⟩
theorem uS {rs : List Rw} {z : List Nat} {q : Int} (rv : cM rs q) : bkF ((List.range rs.length).map fun q : Nat => fB rs z (q : Int)) q = fB rs z q := by
 have hq : q.toNat < rs.length := by have := rv.1; have := rv.2; omega
 unfold bkF
 rw [List.getD_eq_getElem?_getD, List.getElem?_map, List.getElem?_range hq]
 show fB rs z ((q.toNat : Nat) : Int) = _
 rw [show ((q.toNat : Nat) : Int) = q by have := rv.1; omega]
theorem yB {rs : List Rw} {sg c : Nat} (M : Mach rs sg) (hc : dG sg c = true) {bk bk' : Int -> Tn} (h : ∀ q, cM rs q -> bk q = bk' q) (hg : ∀ q, cM rs q -> tnV rs.length (bk q)) {t : Tn} (ht : tnV rs.length t) : onR rs bk c t = onR rs bk' c t := by
 cases t with
 | w x => rfl
 | n q =>
  have st : ∀ q, cM rs q -> eN rs bk c q = eN rs bk' c q := fun q rv => by
   unfold eN
   have hr := List.mem_of_getElem? (dH rv.1 rv.2)
   obtain ⟨_, cg⟩ := lM M hr (show c - 97 < sg by have := of_decide_eq_true hc; omega)
   rw [h _ ⟨cg.1, cg.2.1⟩]
  have nx : ∀ q q', cM rs q -> eN rs bk c q = some (.inl q') -> cM rs q' := fun q q' rv e => by
   unfold eN at e
   have hr := List.mem_of_getElem? (dH rv.1 rv.2)
   obtain ⟨_, cg⟩ := lM M hr (show c - 97 < sg by have := of_decide_eq_true hc; omega)
   have gd := hg _ ⟨cg.1, cg.2.1⟩
   split at e
   ·cases e
   ·split at e
    · rename_i r er; cases e; rw [er] at gd; exact gd
    · cases e
  have a1 : ∀ n q o, cM rs q -> Ex (eN rs bk c) n q o -> Ex (eN rs bk' c) n q o := by
   intro n q o rv hx
   induction hx with
   | @out q o e => exact .out (by rw [<- st q rv]; exact e)
   | @go q q' o n e t ih => exact .go (by rw [<- st q rv]; exact e) (ih (nx q q' rv e))
  have a2 : ∀ n q o, cM rs q -> Ex (eN rs bk' c) n q o -> Ex (eN rs bk c) n q o := by
   intro n q o rv hx
   induction hx with
   | @out q o e => exact .out (by rw [st q rv]; exact e)
   | @go q q' o n e t ih =>
    have e' : eN rs bk c q = some (.inl q') := by rw [st q rv]; exact e
    exact .go e' (ih (nx q q' rv e'))
  show (aZ (eN rs bk c) q).getD (.w eM) = (aZ (eN rs bk' c) q).getD (.w eM)
  rw [iV (st := eN rs bk c) (st' := eN rs bk' c) (s := q) (s' := q) fun o => ⟨fun ⟨n, x⟩ => ⟨n, a1 n q o ht x⟩, fun ⟨n, x⟩ => ⟨n, a2 n q o ht x⟩⟩]
theorem yC {rs : List Rw} {sg : Nat} {z : List Nat} {c : Nat} (M : Mach rs sg) (S : bI sg z) (hc : dG sg c = true) : gH [.d (aP rs z), .d (fA rs (c - 97))] = .ok (.d (aP rs (z ++ [c]))) := by
 have hl : ((List.range rs.length).map fun q : Nat => fB rs z (q : Int)).length = rs.length := by simp
 have hv : ∀ t ∈ (List.range rs.length).map fun q : Nat => fB rs z (q : Int), tnV rs.length t := fun t ht => by
  obtain ⟨q, hq, rfl⟩ := List.mem_map.mp ht
  exact kG M S (wF (List.mem_range.mp hq))
 have hg : ∀ q, cM rs q -> tnV rs.length (bkF ((List.range rs.length).map fun q : Nat => fB rs z (q : Int)) q) := fun q rv => qP hv q
 unfold aP
 rw [aMM M hc hl hv (kG M S (pT M z))]
 rw [yB M hc (fun q rv => uS rv) hg (kG M S (pT M z)), aDD M S hc]
 have em : ((List.range rs.length).map fun q : Nat => onR rs (bkF ((List.range rs.length).map fun q : Nat => fB rs z (q : Int))) c (.n (q : Int))) = (List.range rs.length).map fun q : Nat => fB rs (z ++ [c]) (q : Int) := ?_
 ·rw [em]
 refine List.map_congr_left fun q hq => ?_
 have rv : cM rs (q : Int) := ⟨by omega, by have := List.mem_range.mp hq; omega⟩
 rw [yB M hc (fun q rv => uS rv) hg (t := .n (q : Int)) rv, aDC M S hc rv]
end Mc
namespace Mc
open PySem L2 PyProof.Rows Fl
theorem aBN {rs : List Rw} {sg : Nat} (M : Mach rs sg) : bT (bV rs) = .ok (rs.map cL) := oJ (by have := M.len2; rw [List.length_map]; omega)
theorem aE7 {α : Type} (rs : List Rw) (f : Rw -> α) : rs.map f = (List.range rs.length).map fun q : Nat => f (aO rs (q : Int)) := by
 apply List.ext_getElem
 ·simp
 ·intro i h1 h2
  have hi : i < rs.length := by simpa using h1
  simp only [List.getElem_map, List.getElem_range]
  congr 1
  unfold aO
  rw [List.getD_eq_getElem?_getD, show ((i : Int)).toNat = i by omega, List.getElem?_eq_getElem hi]; rfl
theorem aMN {rs : List Rw} {sg : Nat} (M : Mach rs sg) : fJ [.d (bV rs)] = .ok (.d (aP rs [])) := by
 have h := fQ (fs := stN 0) (fe := e2 dIx (rV 0) (eC (.int 0))) (ρ0 := [none]) (d := cL) (g := fun r : Rw => r.l.d) (xs := rs) fun r _ => ⟨_, rfl, by simp [cL]⟩
 have e1 : aP rs [] = .tuple [(aO rs 0).l.d, .tuple (rs.map fun r => r.l.d)] := by
  unfold aP gK
  rw [z8, aE7 rs, List.map_map]
  congr 4
  refine List.map_congr_left fun q _ => ?_
  show (gJ rs [] (((([] : List Nat).length : Nat) : Int), (q : Int))).d = _
  rw [show ((([] : List Nat).length : Nat) : Int) = 0 by rfl, z8]
 obtain ⟨r, t, hrs, _⟩ := M.cons
 have h0 : dIx (.tuple (rs.map fun r => r.l.d)) (.int 0) = .ok (aO rs 0).l.d := by
  subst hrs
  exact xX _ _
 rw [e1]
 unfold fJ jV
 simp [aBN M, f9, h, h0]
theorem aK9 {rs : List Rw} {sg : Nat} (M : Mach rs sg) (ρ0 : Sg) (h : f9 [none, some 0] ρ0 = [none, some (.d (bV rs))]) :
  compL (stN 0) gS (eA (aV 2 iK (aA (vV 1) (aA (vV 0) aG)))) (f9 [none, some 0] ρ0) ((List.range sg).map fun i : Nat => .int (i : Int)) = .ok ((List.range sg).map (fA rs)) := by
 rw [h]
 refine fQ fun k hk => ⟨_, rfl, ?_⟩
 have := aHS M (List.mem_range.mp hk)
 simp [this]
 rfl
def byT : Sg -> R Bool := (e1 asB (e2 dLe (rV 2) (e1 dLen (rV 1))))
def byB : Sg -> R Fw := (aD (sIf (e1 asB (gU false 4 (cG (aA (eV 2) (aA (eV 3) aG))))) (aY (vD (eC (.str "ever")))) sNx)
 (aD (fH 4 (cG (aA (eV 2) (aA (eV 3) aG))) (eC (.bool true)))
 (aD (sIf (gG (e1 asB (e2 dEq (rV 2) (eC (.int 0)))) (e1 asB (e1 (dN "str") (e2 dIx (e2 dIx (rV 0) (rV 3)) (eC (.int 0)))))) (aY (vD (e2 dIx (e2 dIx (rV 0) (rV 3)) (eC (.int 0))))) sNx)
 (j8 (stT [(stN 2), (stN 3)]) (eA (aV 3 fR (aA (vV 0) (aA (vV 1) (aA (vD (cG (aA (eV 2) (aA (eV 3) aG)))) aG)))))))))
theorem aLA : oU = aD (iZ 4) (aD (a9 byT byB) (aY (vV 3))) := id rfl
def byρ (rs : List Rw) (z : Str) (s : Int × Int) (ps : List (Int × Int)) : Sg := [some (.d (bV rs)), some (.d (.str z)), some (.d (.int s.1)), some (.d (.int s.2)), some (.m (been prD ps))]
theorem aDE {rs : List Rw} {z : Str} (hz : z.cps.toList.length <= 16777216) {s : Int × Int} {ps : List (Int × Int)} : byT (byρ rs z s ps) = .ok (decide (s.1 <= (z.cps.toList.length : Int))) := by
 have hl := xV (z := z) (by rw [lO]; exact hz)
 rw [lO] at hl
 simp [byT, byρ, hl]
theorem aHY {rs : List Rw} {z : Str} {s : Int × Int} {ps : List (Int × Int)} (h : s ∈ ps) : byB (byρ rs z s ps) = .ok (.rt (.d (.str "ever"))) := by
 have h1 : cQ (.tuple [.int s.1, .int s.2]) ((been prD ps).map (·.1)) = true := iA kC ps s
 have h2 : d9 (been prD ps) (.tuple [.int s.1, .int s.2]) = true := (l7 jL).mpr h
 simp [byB, byρ, h1, h2]
theorem aMO {rs : List Rw} {z : Str} {q : Int} {ps : List (Int × Int)} {x : Str} (h : (0, q) ∉ ps) (hp : ps.length <= 16777216) (rv : cM rs q) (e : (aO rs q).l = .w x) : byB (byρ rs z (0, q) ps) = .ok (.rt (.d (.str x))) := by
 have h1 : cQ (.tuple [.int 0, .int q]) ((been prD ps).map (·.1)) = true := iA kC ps (0, q)
 have h2 : d9 (been prD ps) (.tuple [.int 0, .int q]) = false := gE jL h
 have h4 : (been prD ps).length <= 16777216 := by rw [iB]; exact hp
 have hr := nI rv.1 rv.2
 simp [byB, byρ, h1, h2, h4, c9, hr, cL, e, Tn.d, tW]
theorem aLB {rs : List Rw} {sg : Nat} {z : Str} (M : Mach rs sg) (S : bI sg z.cps.toList) {s s' : Int × Int} {ps : List (Int × Int)} (h : s ∉ ps) (hp : ps.length <= 16777216) (V : kF rs z.cps.toList s) (e : dM rs z.cps.toList s = some s') : byB (byρ rs z s ps) = .ok (.nx (byρ rs z s' (ps ++ [s]))) := by
 obtain ⟨p, q⟩ := s
 have h1 : cQ (.tuple [.int p, .int q]) ((been prD ps).map (·.1)) = true := iA kC ps (p, q)
 have h2 : d9 (been prD ps) (.tuple [.int p, .int q]) = false := gE jL h
 have h3 : putM (been prD ps) (.tuple [.int p, .int q]) (.bool true) = been prD (ps ++ [(p, q)]) := kB jL h
 have h4 : (been prD ps).length <= 16777216 := by rw [iB]; exact hp
 have hr := nI V.2.2.1 V.2.2.2
 have f := tX M S V.valid
 rw [e] at f
 obtain ⟨p', q'⟩ := s'
 simp only [kZ, prD] at f
 by_cases h0 : p = 0
 ·subst h0
  have hw : ∃ q2, (aO rs q).l = .n q2 := by
   unfold dM a8 at e
   rw [if_pos rfl] at e
   cases el : (aO rs q).l with
   | w x => rw [el] at e; cases e
   | n q2 => exact ⟨q2, rfl⟩
  obtain ⟨q2, hw⟩ := hw
  simp [byB, byρ, h1, h2, h3, h4, c9, hr, cL, hw, Tn.d, tU, f]
 ·simp [byB, byρ, h1, h2, h3, h4, c9, h0, f]
theorem aHZ {rs : List Rw} {sg : Nat} {z : Str} (M : Mach rs sg) (S : bI sg z.cps.toList) {s0 : Int × Int} : ∀ (n : Nat) (ps : List (Int × Int)) (s : Int × Int), Und2 (bW rs z.cps.toList) s0 ps s -> (∀ p ∈ ps, kF rs z.cps.toList p) -> kF rs z.cps.toList s -> jP rs z.cps.toList + 1 <= ps.length + n ->
  aD (a9 byT byB) (aY (vV 3)) (byρ rs z s ps) = .ok (.rt (.d ((aZ (bW rs z.cps.toList) s0).getD (.w eM)).d)) := by
 have hz : z.cps.toList.length <= 16777216 := by have := S.1; omega
 have hB : jP rs z.cps.toList <= 1002 * 1000 := Nat.mul_le_mul (by have := S.1; omega) M.len2
 intro n
 induction n with
 | zero =>
  intro ps s U pv V hn
  have := nV U.nd fun st h => (pv st h).valid
  unfold jP at hn
  omega
 | succ n ih =>
  intro ps s U pv V hn
  rw [bL]
  have hT : byT (byρ rs z s ps) = .ok true := by rw [aDE hz, decide_eq_true V.2.1]
  by_cases hs : s ∈ ps
  ·rw [hZ hT (aHY hs), U.met hs]; rfl
  ·have hl : ps.length <= jP rs z.cps.toList := nV U.nd fun st h => (pv st h).valid
   have hp : ps.length <= 16777216 := by omega
   rcases beg_cell M S V with ⟨x, e, h0⟩ | ⟨q, e, rv, h1, h2⟩
   ·obtain ⟨p, q⟩ := s
    simp only at h0
    subst h0
    have el : (aO rs q).l = .w x := by unfold a8 at e; rw [if_pos rfl] at e; exact e
    rw [hZ hT (aMO hs hp V.2.2 el), U.outs (show bW rs z.cps.toList (0, q) = some (.inr (.w x)) by unfold bW; rw [e])]; rfl
   ·have est : dM rs z.cps.toList s = some (s.1 + (a8 rs z.cps.toList s).2, q) := by unfold dM; rw [e]
    rw [hX hT (aLB M S hs hp V est)]
    by_cases h3 : s.1 + (a8 rs z.cps.toList s).2 <= (z.cps.toList.length : Int)
    ·have st : bW rs z.cps.toList s = some (.inl (s.1 + (a8 rs z.cps.toList s).2, q)) := by unfold bW; rw [e]; simp only; rw [if_pos h3]
     have := ih (ps ++ [s]) (s.1 + (a8 rs z.cps.toList s).2, q) (U.next hs st) (fun p hp => by
      rcases List.mem_append.mp hp with z | z
      · exact pv p z
      · rw [List.mem_singleton.mp z]; exact V) ⟨h1, h3, rv⟩ (by rw [List.length_append, List.length_singleton]; omega)
     rw [bL] at this
     exact this
    ·have st : bW rs z.cps.toList s = some (.inr (.n q)) := by unfold bW; rw [e]; simp only; rw [if_neg h3]
     rw [fK (by rw [aDE hz, decide_eq_false h3]), U.outs st]
     simp [byρ, Tn.d]
theorem aF8 {rs : List Rw} {sg : Nat} {z : Str} (M : Mach rs sg) (S : bI sg z.cps.toList) {s : Int × Int} (V : kF rs z.cps.toList s) : gP [.d (bV rs), .d (.str z), .d (.int s.1), .d (.int s.2)] = .ok (.d (gJ rs z.cps.toList s).d) := by
 have key := aHZ M S (jP rs z.cps.toList + 1) [] s Und2.start (fun p hp => by simp at hp) V (by simp)
 unfold gP
 rw [aLA]
 simp only [kT, bL, oG, R.bind_ok, List.length_cons, List.length_nil, Nat.reduceAdd, List.map_cons, List.map_nil, List.cons_append, List.nil_append, List.replicate, List.set_cons_zero, List.set_cons_succ]
 rw [bL] at key
 simp only [byρ, been, List.map_nil] at key
 rw [key]; rfl
theorem aDF {rs : List Rw} {sg : Nat} {z : Str} (M : Mach rs sg) (S : bI sg z.cps.toList) : dE [.d (bV rs), .d (.str z)] = .ok (.d (aP rs z.cps.toList)) := by
 have hz : z.cps.toList.length <= 16777216 := by have := S.1; omega
 have hl := xV (z := z) (by rw [lO]; exact hz)
 rw [lO] at hl
 have h := fQ (fs := stN 0) (fe := eA (aV 4 gP (aA (vV 1) (aA (vV 2) (aA (vD (e1 dLen (rV 2))) (aA (vV 0) aG)))))) (ρ0 := [none, some (.d (bV rs)), some (.d (.str z))]) (d := fun i : Nat => .int (i : Int)) (g := fun i : Nat => (fB rs z.cps.toList (i : Int)).d) (xs := List.range rs.length) fun i hi => by
  refine ⟨_, rfl, ?_⟩
  have := aF8 M S (wF (z := z.cps.toList) (List.mem_range.mp hi))
  simp only at this
  simp only [aBJ, l5, i7, tO, oF, kK, iL, gB, List.set_cons_zero, List.getElem?_cons_zero, List.getElem?_cons_succ, R.bind_ok, hl, List.length_cons, List.length_nil, Nat.reduceAdd, if_true, this, xR]
  rfl
 have hr := jM (n := rs.length) (by have := M.len2; omega)
 have hm : dLen (bV rs) = .ok (.int rs.length) := by unfold bV; rw [aKO, List.length_map]
 have h0 := aF8 M S (pT M z.cps.toList)
 simp only at h0
 unfold dE l8
 simp [hm, hr, f9, h, h0]
 unfold aP gK
 rw [List.map_map]; rfl
end Mc
namespace Mc
open PySem L2 PyProof.Rows Fl
end Mc
namespace Mc
open PySem L2 PyProof.Rows Fl
end Mc
namespace Mc
open PySem L2 PyProof.Rows Fl
end Mc
namespace Fl
open PySem L2 PyProof.Rows
@[simp] theorem aE8 (i : Nat) (f : Sg -> R (List (PyData × PyData))) (ρ : Sg) : n9 i f ρ = (f ρ).bind fun kvs => (gA [] kvs).bind fun res => .ok (.nx (ρ.set i (some (.m res)))) := id rfl
@[simp] theorem aH0 (ρ : Sg) : r0 ρ = .ok [] := id rfl
@[simp] theorem aE9 (f g : Sg -> R PyData) (r : Sg -> R (List (PyData × PyData))) (ρ : Sg) : n8 f g r ρ = (f ρ).bind fun x => (g ρ).bind fun y => (r ρ).bind fun t => .ok ((x, y) :: t) := id rfl
@[simp] theorem aMV (i : Nat) (f g : Sg -> R PyData) (ρ : Sg) : aJ6 i f g ρ = match ρ[i]? with | some (some (.m kvs)) => (f ρ).bind fun k => (g ρ).bind fun y => if cQ k (kvs.map (·.1)) = true then .ok ((iP kvs k).getD y) else .bad | _ => .bad := id rfl
end Fl
namespace Mc
open PySem L2 PyProof.Rows Fl
end Mc
namespace Mc
open PySem L2 PyProof.Rows Fl
theorem aFA {rs : List Rw} {sg : Nat} {z : List Nat} (M : Mach rs sg) (S : bI sg z) : g5 rs z = "by" \/ g5 rs z = "out" \/ g5 rs z = "ever" := by
 rw [<- yU M S]; exact aE4 M (yS M S)
end Mc
namespace Mc
open PySem L2 PyProof.Rows Fl
end Mc
namespace Fl
open PySem L2 PyProof.Rows
theorem aAA (i : Nat) (j : Option Nat) (n : Nat) (G : List A -> R A) (f : Sg -> R (List A)) (cl : List Str) (fs : Sg -> R Fw) (ρ : Sg) : xF i j n G f cl fs ρ = match f ρ with
 | .ok as => if as.length = n then (match G as with
  | .bad => .bad
  | .ok a => .ok (.nx (putO j a ρ))
  | .ex e => if cl.contains e.c = true then (fs (ρ.set i (some (.x e)))).bind fun w => .ok (aET i w) else .bad) else .bad
 | _ => .bad := id rfl
end Fl
namespace Mc
open PySem L2 PyProof.Rows Fl
@[simp] theorem aOG (m i : Nat) (f : Sg -> R (List PyData)) (ρ : Sg) : xJ m i f ρ = match ρ[i]? with | some (some (.g k n G)) => (f ρ).bind fun ds => if k <= m /\ ds.length = n then G ds else .bad | _ => .bad := id rfl
@[simp] theorem aNW (m i : Nat) (f : Sg -> R (List PyData)) (ρ : Sg) : tK m i f ρ = match ρ[i]? with | some (some (.g k n G)) => (f ρ).bind fun ds => if k <= m /\ ds.length = n then (match G ds with | .ok d => if qM d = true then .ok d else .bad | _ => .bad) else .bad | _ => .bad := id rfl
def fT (fs : List PyData) : List (PyData × PyData) := fs.zipIdx.map fun p => (p.1, .int (p.2 : Int))
theorem oK (fs : List PyData) : (fT fs).map (·.1) = fs := by
 unfold fT
 rw [List.map_map]
 show fs.zipIdx.map Prod.fst = fs
 exact List.zipIdx_map_fst 0 fs
theorem aAB (fs : List PyData) : (fT fs).length = fs.length := by unfold fT; rw [List.length_map, List.length_zipIdx]
theorem yD {fs : List PyData} {x : PyData} (hx : iO x = true) (h : ∀ y ∈ fs, iO y = true) : cQ x ((fT fs).map (·.1)) = true := by
 unfold cQ
 rw [oK, hx, Bool.true_and, Bool.or_eq_true, List.all_eq_true]
 exact .inl h
theorem uT {fs : List PyData} {x : PyData} : d9 (fT fs) x = true ↔ x ∈ fs := by rw [rY, oK]
theorem sC {fs : List PyData} {x : PyData} (h : x ∉ fs) : d9 (fT fs) x = false := by
 cases q : d9 (fT fs) x with
 | false => rfl
 | true => exact absurd (uT.mp q) h
theorem aAC {fs : List PyData} {x : PyData} (h : x ∉ fs) : putM (fT fs) x (.int (fs.length : Int)) = fT (fs ++ [x]) := by
 unfold putM
 rw [sC h, if_neg (by decide)]
 unfold fT
 rw [List.zipIdx_append, List.map_append]
 simp
theorem aH1 {fs : List PyData} {x : PyData} (h : x ∈ fs) : ∃ i : Nat, iP (fT fs) x = some (.int (i : Int)) /\ fs[i]? = some x := by
 unfold iP
 cases e : (fT fs).find? fun p => decide (p.1 = x) with
 | none =>
  rw [List.find?_eq_none] at e
  rw [<- oK fs, List.mem_map] at h
  obtain ⟨p, hp, e2⟩ := h
  exact absurd (decide_eq_true e2) (e p hp)
 | some p =>
  have h1 := List.find?_some e
  have h2 := List.mem_of_find?_eq_some e
  unfold fT at h2
  obtain ⟨⟨y, i⟩, hy, rfl⟩ := List.mem_map.mp h2
  refine ⟨i, rfl, ?_⟩
  have h1 : y = x := of_decide_eq_true h1
  rw [<- h1]
  exact List.mk_mem_zipIdx_iff_getElem?.mp hy
structure Srch where
 after : PyData -> List PyData
 x0 : PyData
 good : Nat -> PyData -> Prop
 lim : Nat
 k1 : Nat
 k2 : Nat
 G : List PyData -> R PyData
 D : List PyData -> R PyData
structure Srch.ok (S : Srch) : Prop where
 g0 : S.good 0 S.x0
 gs : ∀ i x, S.good i x -> i <= S.lim -> ∀ y ∈ S.after x, S.good (i + 1) y
 up : ∀ i j x, i <= j -> S.good i x -> S.good j x
 few : ∀ xs : List PyData, xs.Nodup -> (∀ x ∈ xs, ∃ i, S.good i x) -> xs.length <= S.lim
 key : ∀ i x, S.good i x -> iO x = true
 hk1 : S.k1 <= 12
 hk2 : S.k2 <= 12
 hG : ∀ i x, i <= S.lim -> S.good i x -> S.G [x] = .ok (.list (S.after x)) /\ (S.after x).length <= 16777216
 hD : ∀ (fs : List PyData) (i : Int), fs.length <= S.lim -> S.D [.list fs, .int i] = .ok (.bool false)
 hl : S.lim <= 16000000
def rhF : Sg -> R Fw := (aD (sIf (e1 asB (gU true 4 (eV 7))) (aD (fH 4 (eV 7) (e1 dLen (rV 3)))
 (dB 3 (eV 7))) sNx)
 (dB 6 (mK 4 (eV 7))))
def rhT : Sg -> R Bool := (gG (e1 asB (e2 dLt (e1 dLen (rV 5)) (e1 dLen (rV 3)))) (gR (e1 asB (tK 12 2 (aA (rV 3) (aA (e1 dLen (rV 5)) aG))))))
def rhB : Sg -> R Fw := (aD (cR 6 (cY aG))
 (aD (jT (e1 bT (xJ 12 1 (aA (e2 dIx (rV 3) (e1 dLen (rV 5))) aG))) (stN 7) rhF)
 (dB 5 (e1 dTup (rV 6)))))
theorem aLC : pO = aD (cR 3 (cY (aA (eV 0) aG))) (aD (n9 4 (n8 (eV 0) (eC (.int 0)) r0)) (aD (cR 5 (cY aG)) (aD (a9 rhT rhB) (sFz 5 (sFz 3 (aY (vD (cG (aA (eV 3) (aA (eV 5) aG))))))))) ) := id rfl
def aMP (fs : List PyData) (js : List Nat) (ys : List PyData) : Prop := js.length = ys.length /\ ∀ (c : Nat) (y : PyData), ys[c]? = some y -> ∃ j, js[c]? = some j /\ fs[j]? = some y
def fC (js : List Nat) : PyData := .tuple (js.map fun j : Nat => .int (j : Int))
structure Fnd (S : Srch) (fs : List PyData) : Prop where
 nd : fs.Nodup
 gd : ∀ (i : Nat) (x : PyData), fs[i]? = some x -> S.good i x
structure Rchd (S : Srch) (fs : List PyData) (gs : List (List Nat)) : Prop where
 fnd : Fnd S fs
 len : gs.length = fs.length
 zer : fs[0]? = some S.x0
 row : ∀ (i : Nat) (js : List Nat) (x : PyData), gs[i]? = some js -> fs[i]? = some x -> aMP fs js (S.after x)
end Mc
namespace Mc
open PySem L2 PyProof.Rows Fl
def adQ (fs : List PyData) (y : PyData) : List PyData := if y ∈ fs then fs else fs ++ [y]
def adA (fs ys : List PyData) : List PyData := ys.foldl adQ fs
def nrQ (fs : List PyData) (y : PyData) : Nat := fs.idxOf y
theorem nJ {fs : List PyData} {y : PyData} (h : y ∈ fs) : adQ fs y = fs := if_pos h
theorem lP {fs : List PyData} {y : PyData} (h : y ∉ fs) : adQ fs y = fs ++ [y] := if_neg h
theorem nK (fs : List PyData) (y : PyData) : fs <+: adQ fs y := by
 by_cases h : y ∈ fs
 · rw [nJ h]; exact List.prefix_refl _
 · rw [lP h]; exact List.prefix_append ..
theorem qR (fs : List PyData) (y : PyData) : y ∈ adQ fs y := by
 by_cases h : y ∈ fs
 · rw [nJ h]; exact h
 · rw [lP h]; simp
theorem aDG {fs : List PyData} {y : PyData} (h : fs.Nodup) : (adQ fs y).Nodup := by
 by_cases q : y ∈ fs
 ·rw [nJ q]; exact h
 ·rw [lP q, List.nodup_append]
  exact ⟨h, by simp, fun a ha b hb => by rw [List.mem_singleton.mp hb]; rintro rfl; exact q ha⟩
theorem aH2 (fs : List PyData) (y : PyData) : (adQ fs y).length <= fs.length + 1 := by
 by_cases q : y ∈ fs
 · rw [nJ q]; omega
 · rw [lP q]; simp
theorem aFB (fs ys : List PyData) (y : PyData) : adA fs (ys ++ [y]) = adQ (adA fs ys) y := by unfold adA; rw [List.foldl_append]; rfl
theorem uU (ys : List PyData) : ∀ fs : List PyData, fs <+: adA fs ys := by
 induction ys with
 | nil => exact fun fs => List.prefix_refl _
 | cons y t ih => exact fun fs => (nK fs y).trans (ih _)
theorem tY (ys : List PyData) : ∀ {fs : List PyData}, fs.Nodup -> (adA fs ys).Nodup := by
 induction ys with
 | nil => exact fun h => h
 | cons y t ih => exact fun h => ih (aDG h)
theorem nL (ys : List PyData) : ∀ {fs : List PyData} {y : PyData}, y ∈ ys -> y ∈ adA fs ys := by
 induction ys with
 | nil => intro fs y h; cases h
 | cons x t ih =>
  intro fs y h
  rcases List.mem_cons.mp h with rfl | h
  · exact (uU t _).subset (qR fs y)
  · exact ih h
theorem aAD (ys : List PyData) : ∀ fs : List PyData, (adA fs ys).length <= fs.length + ys.length := by
 induction ys with
 | nil => intro fs; exact Nat.le_refl _
 | cons x t ih =>
  intro fs
  have h1 := ih (adQ fs x)
  have h2 := aH2 fs x
  show (adA (adQ fs x) t).length <= fs.length + (t.length + 1)
  omega
theorem qS {fs fs' : List PyData} {y : PyData} (h : fs <+: fs') (hy : y ∈ fs) : nrQ fs' y = nrQ fs y := by
 obtain ⟨t, rfl⟩ := h
 unfold nrQ
 rw [List.idxOf_append, if_pos hy]
theorem aLD {fs : List PyData} {y : PyData} (hy : y ∈ fs) : fs[nrQ fs y]? = some y := by
 have h : nrQ fs y < fs.length := List.idxOf_lt_length_of_mem hy
 rw [List.getElem?_eq_getElem h]
 exact congrArg some (List.getElem_idxOf h)
theorem aMQ {α : Type} {xs : List α} (h : xs.Nodup) {i j : Nat} {x : α} (h1 : xs[i]? = some x) (h2 : xs[j]? = some x) : i = j := by
 obtain ⟨l1, e1⟩ := List.getElem?_eq_some_iff.mp h1
 obtain ⟨l2, e2⟩ := List.getElem?_eq_some_iff.mp h2
 rcases Nat.lt_trichotomy i j with q | q | q
 · exact absurd (e1.trans e2.symm) (List.pairwise_iff_getElem.mp h i j l1 l2 q)
 · exact q
 · exact absurd (e2.trans e1.symm) (List.pairwise_iff_getElem.mp h j i l2 l1 q)
theorem aAE {fs : List PyData} {y : PyData} (h : fs.Nodup) (hy : y ∈ fs) : iP (fT fs) y = some (.int (nrQ fs y : Int)) := by
 obtain ⟨i, h1, h2⟩ := aH1 hy
 rw [h1, aMQ h h2 (aLD hy)]
structure Sq where
 after : PyData -> List PyData
 x0 : PyData
 stop : List PyData -> Nat -> Bool
 k1 : Nat
 k2 : Nat
 G : List PyData -> R PyData
 D : List PyData -> R PyData
def bfQ (after : PyData -> List PyData) (x0 : PyData) : Nat -> List PyData
 | 0 => [x0]
 | n + 1 => match (bfQ after x0 n)[n]? with
  | some x => adA (bfQ after x0 n) (after x)
  | none => bfQ after x0 n
theorem oM {after : PyData -> List PyData} {x0 x : PyData} {n : Nat} (h : (bfQ after x0 n)[n]? = some x) : bfQ after x0 (n + 1) = adA (bfQ after x0 n) (after x) := by rw [bfQ, h]
theorem iC (after : PyData -> List PyData) (x0 : PyData) (n : Nat) : bfQ after x0 n <+: bfQ after x0 (n + 1) := by
 rw [bfQ]
 split
 · exact uU _ _
 · exact List.prefix_refl _
theorem nM {after : PyData -> List PyData} {x0 : PyData} {m n : Nat} (h : m <= n) : bfQ after x0 m <+: bfQ after x0 n := by
 obtain ⟨k, rfl⟩ := Nat.le.dest h
 clear h
 induction k with
 | zero => exact List.prefix_refl _
 | succ k ih => exact ih.trans (iC after x0 (m + k))
theorem aDH (after : PyData -> List PyData) (x0 : PyData) (n : Nat) : (bfQ after x0 n).Nodup := by
 induction n with
 | zero => simp [bfQ]
 | succ n ih =>
  rw [bfQ]
  split
  · exact tY _ ih
  · exact ih
theorem aFC (after : PyData -> List PyData) (x0 : PyData) (n : Nat) : (bfQ after x0 n)[0]? = some x0 := by
 obtain ⟨t, e⟩ := nM (after := after) (x0 := x0) (Nat.zero_le n)
 rw [<- e]; rfl
theorem sD {α : Type} {f g : List α} {i : Nat} {x : α} (h : f <+: g) (e : f[i]? = some x) : g[i]? = some x := by
 obtain ⟨t, rfl⟩ := h
 rw [List.getElem?_append_left (List.getElem?_eq_some_iff.mp e).1]
 exact e
theorem vU {α : Type} {f g : List α} {i : Nat} {x : α} (h : f <+: g) (hi : i < f.length) (e : g[i]? = some x) : f[i]? = some x := by
 obtain ⟨t, rfl⟩ := h
 rwa [List.getElem?_append_left hi] at e
def oN (after : PyData -> List PyData) (fs : List PyData) (x : PyData) : PyData := fC ((after x).map (nrQ fs))
def bX (after : PyData -> List PyData) (fs : List PyData) (n : Nat) : List PyData := (fs.take n).map (oN after fs)
structure Sq.ok (S : Sq) (N : Nat) : Prop where
 on : ∀ m, m < N -> m < (bfQ S.after S.x0 m).length /\ S.stop (bfQ S.after S.x0 m) m = false
 off : (bfQ S.after S.x0 N).length <= N \/ S.stop (bfQ S.after S.x0 N) N = true
 key : (∀ x ∈ bfQ S.after S.x0 N, iO x = true) \/ (∀ x ∈ bfQ S.after S.x0 N, rQ x = true)
 len : (bfQ S.after S.x0 N).length <= 16000000
 hk1 : S.k1 <= 12
 hk2 : S.k2 <= 12
 hG : ∀ m x, m < N -> (bfQ S.after S.x0 N)[m]? = some x -> (∃ d, S.G [x] = .ok d /\ bT d = .ok (S.after x)) /\ (S.after x).length <= 1000
 hD : ∀ m, m <= N -> m < (bfQ S.after S.x0 m).length -> S.D [.list (bfQ S.after S.x0 m), .int (m : Int)] = .ok (.bool (S.stop (bfQ S.after S.x0 m) m))
theorem aF9 {B : List PyData} (h : (∀ x ∈ B, iO x = true) \/ (∀ x ∈ B, rQ x = true)) {y : PyData} {fs : List PyData} (hy : y ∈ B) (hf : ∀ x ∈ fs, x ∈ B) : cQ y ((fT fs).map (·.1)) = true := by
 unfold cQ
 rw [oK, Bool.or_eq_true, Bool.and_eq_true, Bool.and_eq_true, List.all_eq_true, List.all_eq_true]
 exact h.imp (fun h => ⟨h y hy, fun x hx => h x (hf x hx)⟩) (fun h => ⟨h y hy, fun x hx => h x (hf x hx)⟩)
def rqρ (S : Sq) (fs : List PyData) (gs : List PyData) (u v : Option A) : Sg := [some (.d S.x0), some (.g S.k1 1 S.G), some (.g S.k2 2 S.D), some (.l fs), some (.m (fT fs)), some (.l gs), u, v]
theorem aLE {S : Sq} {B fs ys gs : List PyData} {v : Option A} (hB : (∀ x ∈ B, iO x = true) \/ (∀ x ∈ B, rQ x = true)) (hl : B.length <= 16000000) (nd : fs.Nodup) (hp : adA fs ys <+: B) (hy : ys.length <= 1000) :
  ∃ v', lY (stN 7) rhF ys (rqρ S fs gs (some (.l [])) v) = .ok (.nx (rqρ S (adA fs ys) gs (some (.l ((ys.map (nrQ (adA fs ys))).map fun j : Nat => .int (j : Int)))) v')) := by
 obtain ⟨ρ', q1, v', q2⟩ := i8 (fs := stN 7) (fb := rhF) (d := id) (xs := ys) (ρ := rqρ S fs gs (some (.l [])) v)
  (fun i ρ => ∃ v', ρ = rqρ S (adA fs (ys.take i)) gs (some (.l (((ys.take i).map (nrQ (adA fs (ys.take i)))).map fun j : Nat => .int (j : Int)))) v') ⟨v, rfl⟩ fun i y ρ hi ⟨v', e⟩ => by
  have ht : ys.take (i + 1) = ys.take i ++ [y] := by rw [List.take_add_one, hi]; rfl
  have hil := (List.getElem?_eq_some_iff.mp hi).1
  have hpi : adA fs (ys.take (i + 1)) <+: B := by
   refine List.IsPrefix.trans ?_ hp
   have : adA fs ys = adA (adA fs (ys.take (i + 1))) (ys.drop (i + 1)) := by
    unfold adA; rw [<- List.foldl_append, List.take_append_drop]
   rw [this]; exact uU _ _
  have nd1 : (adA fs (ys.take i)).Nodup := tY _ nd
  have nd2 : (adA fs (ys.take (i + 1))).Nodup := tY _ nd
  have hm2 : ∀ x ∈ ys.take (i + 1), x ∈ adA fs (ys.take (i + 1)) := fun x hx => nL _ hx
  rw [ht] at hpi nd2 hm2
  rw [ht, aFB] at *
  generalize hF : adA fs (ys.take i) = F at *
  have hyB : y ∈ B := hpi.subset (qR F y)
  have hFB : ∀ x ∈ F, x ∈ B := fun x hx => hpi.subset ((nK F y).subset hx)
  have hlen : F.length < 16777216 := by
   have h1 := hpi.length_le
   have h2 := (nK F y).length_le
   omega
  have s1 := aF9 hB hyB hFB
  have s2 := aF9 hB hyB (fs := adQ F y) (fun x hx => hpi.subset hx)
  have g2 := aAE nd2 (qR F y)
  have hil2 : (fT F).length <= 16777216 := by rw [aAB]; omega
  have hmF : ∀ x ∈ ys.take i, x ∈ F := fun x hx => by rw [<- hF]; exact nL _ hx
  have hrow : (ys.take i ++ [y]).map (nrQ (adQ F y)) = (ys.take i).map (nrQ F) ++ [nrQ (adQ F y) y] := by
   rw [List.map_append, List.map_singleton]
   congr 1
   exact List.map_congr_left fun x hx => qS (nK F y) (hmF x hx)
  have htl : (ys.take i).length < 16777216 := by rw [List.length_take]; omega
  rw [hrow]
  refine ⟨rqρ S F gs (some (.l (((ys.take i).map (nrQ F)).map fun j : Nat => .int (j : Int)))) (some (.d y)), _, by rw [e]; simp [rqρ], .inl ?_, some (.d y), rfl⟩
  have hl3 : dLen (.list F) = .ok (.int (F.length : Int)) := gC _
  have htl2 : min i ys.length < 16777216 := by rw [List.length_take] at htl; exact htl
  by_cases hm : y ∈ F
  ·have a1 := uT.mpr hm
   rw [nJ hm] at s2 g2 ⊢
   simp [rhF, rqρ, s1, a1, g2, htl2]
  ·have a1 := sC hm
   have a2 := aAC hm
   rw [lP hm] at s2 g2 ⊢
   simp [rhF, rqρ, s1, s2, a1, a2, g2, hl3, hil2, hlen, htl2]
 rw [List.map_id] at q1
 rw [List.take_length] at q2
 exact ⟨v', by rw [q1, q2]⟩
theorem Sq.ok.le {S : Sq} {N : Nat} (O : S.ok N) {m : Nat} (h : m <= N) : bfQ S.after S.x0 m <+: bfQ S.after S.x0 N := nM h
theorem aAF {S : Sq} {N m : Nat} (O : S.ok N) (h : m <= N) {gs : List PyData} (hg : gs.length = m) {u v : Option A} : rhT (rqρ S (bfQ S.after S.x0 m) gs u v) = .ok (decide (m < N)) := by
 have k2 := O.hk2
 subst hg
 by_cases hl : gs.length < (bfQ S.after S.x0 gs.length).length
 ·have hd := O.hD _ h hl
  have hs : S.stop (bfQ S.after S.x0 gs.length) gs.length = !decide (gs.length < N) := by
   by_cases q : gs.length < N
   ·rw [(O.on _ q).2, decide_eq_true q]; rfl
   ·have e : gs.length = N := by omega
    rcases O.off with z | z
    · rw [e] at hl; omega
    · rw [decide_eq_false q, e]; exact z
  rw [hs] at hd
  simp [rhT, rqρ, gC, hl, k2, hd, qM]
 ·have : ¬ gs.length < N := fun q => hl (O.on _ q).1
  simp [rhT, rqρ, gC, hl, this]
theorem aH3 {S : Sq} {N m : Nat} (O : S.ok N) (h : m < N) {gs : List PyData} (hg : gs.length = m) {u v : Option A} : ∃ x u' v', (bfQ S.after S.x0 m)[m]? = some x /\ rhB (rqρ S (bfQ S.after S.x0 m) gs u v) = .ok (.nx (rqρ S (bfQ S.after S.x0 (m + 1)) (gs ++ [oN S.after (bfQ S.after S.x0 (m + 1)) x]) u' v')) := by
 have hlt := (O.on m h).1
 have hx : (bfQ S.after S.x0 m)[m]? = some (bfQ S.after S.x0 m)[m] := List.getElem?_eq_getElem hlt
 generalize (bfQ S.after S.x0 m)[m] = x at hx
 have k1 := O.hk1
 obtain ⟨⟨d, g1, g2⟩, g3⟩ := O.hG m x h (sD (O.le (by omega)) hx)
 have e := oM hx
 have hp : adA (bfQ S.after S.x0 m) (S.after x) <+: bfQ S.after S.x0 N := by rw [<- e]; exact O.le (by omega)
 obtain ⟨v', q⟩ := aLE (S := S) (gs := gs) (v := v) O.key O.len (aDH S.after S.x0 m) hp g3
 rw [<- e] at q
 have ix : dIx (.list (bfQ S.after S.x0 m)) (.int (m : Int)) = .ok x := oI (jE hx)
 have hml : gs.length < 16777216 := by have := (O.le (show m <= N by omega)).length_le; have := O.len; omega
 have hyl : (S.after x).length <= 16777216 := by omega
 refine ⟨x, some (.l (((S.after x).map (nrQ (bfQ S.after S.x0 (m + 1)))).map fun j : Nat => .int (j : Int))), v', hx, ?_⟩
 subst hg
 simp only [rqρ] at q
 simp [rhB, rqρ, gC, ix, k1, g1, g2, q, hml, oN, fC, hyl]
theorem aH4 {S : Sq} {N : Nat} (O : S.ok N) : ∀ (k m : Nat) (u v : Option A), m + k = N ->
  ∃ u' v', a9 rhT rhB (rqρ S (bfQ S.after S.x0 m) (bX S.after (bfQ S.after S.x0 m) m) u v) = .ok (.nx (rqρ S (bfQ S.after S.x0 N) (bX S.after (bfQ S.after S.x0 N) N) u' v')) := by
 have hrl : ∀ m, m <= N -> (∀ m', m' < m -> m' < (bfQ S.after S.x0 m').length) -> m <= (bfQ S.after S.x0 m).length := fun m hm h => by
  cases m with
  | zero => omega
  | succ m => have h1 := h m (by omega); have h2 := (iC S.after S.x0 m).length_le; omega
 intro k
 induction k with
 | zero =>
  intro m u v hm
  have hm : m = N := by omega
  subst hm
  have hle := hrl m (by omega) fun m' h => (O.on m' h).1
  have hg : (bX S.after (bfQ S.after S.x0 m) m).length = m := by unfold bX; rw [List.length_map, List.length_take]; omega
  rw [fK (by rw [aAF O (Nat.le_refl m) hg, decide_eq_false (by omega)])]
  exact ⟨u, v, rfl⟩
 | succ k ih =>
  intro m u v hm
  have hlt : m < N := by omega
  have hle := hrl m (by omega) fun m' h => (O.on m' (by omega)).1
  have hg : (bX S.after (bfQ S.after S.x0 m) m).length = m := by unfold bX; rw [List.length_map, List.length_take]; omega
  obtain ⟨x, u', v', hx, q⟩ := aH3 O hlt hg (u := u) (v := v)
  rw [hX (by rw [aAF O (by omega) hg, decide_eq_true hlt]) q]
  have e : bX S.after (bfQ S.after S.x0 m) m ++ [oN S.after (bfQ S.after S.x0 (m + 1)) x] = bX S.after (bfQ S.after S.x0 (m + 1)) (m + 1) := by
   unfold bX
   have ht : (bfQ S.after S.x0 (m + 1)).take (m + 1) = (bfQ S.after S.x0 m).take m ++ [x] := by
    obtain ⟨t, et⟩ := iC S.after S.x0 m
    have hml := (List.getElem?_eq_some_iff.mp hx).1
    rw [<- et, List.take_append_of_le_length (by omega), List.take_add_one, hx]; rfl
   rw [ht, List.map_append, List.map_singleton]
   congr 1
   refine List.map_congr_left fun y hy => ?_
   unfold oN
   congr 1
   refine List.map_congr_left fun z hz => ?_
   obtain ⟨j, hj⟩ := List.getElem?_of_mem hy
   have hjl : j < m := by
    have := (List.getElem?_eq_some_iff.mp hj).1
    rw [List.length_take] at this; omega
   rw [List.getElem?_take, if_pos hjl] at hj
   refine (qS (iC S.after S.x0 m) ?_).symm
   have hj2 : (bfQ S.after S.x0 j)[j]? = some y := vU (O.le (by omega)) ((O.on j (by omega)).1) (sD (O.le (by omega)) hj)
   have := nL (fs := bfQ S.after S.x0 j) _ hz
   rw [<- oM hj2] at this
   exact (nM (by omega)).subset this
  rw [e]
  exact ih (m + 1) u' v' (by omega)
theorem aNX {S : Sq} {N : Nat} (O : S.ok N) : jJ [.d S.x0, .g S.k1 1 S.G, .g S.k2 2 S.D] = .ok (.d (.tuple [.list (bfQ S.after S.x0 N), .list (bX S.after (bfQ S.after S.x0 N) N)])) := by
 obtain ⟨u, v, q⟩ := aH4 O N 0 none none (by omega)
 have h0 := List.mem_of_getElem? (aFC S.after S.x0 N)
 have hs : cQ S.x0 [] = true := by
  unfold cQ
  rw [Bool.or_eq_true, Bool.and_eq_true, Bool.and_eq_true]
  exact O.key.imp (fun h => ⟨h _ h0, rfl⟩) (fun h => ⟨h _ h0, rfl⟩)
 have hi : fT [S.x0] = [(S.x0, .int 0)] := rfl
 have hp : Fl.gA [] [(S.x0, .int 0)] = .ok [(S.x0, .int 0)] := by simp [Fl.gA, hs, putM, d9, iP]
 unfold jJ
 rw [aLC]
 simp only [rqρ, bfQ, bX, List.take_zero, hi, List.map_nil] at q
 simp [hp, q, bX]
end Mc
namespace Mc
open PySem L2 PyProof.Rows Fl
def wT : Sg -> R Bool := (gR (e1 asB (eA (aV 1 dJ (aA (vV 2) aG)))))
def wB : Sg -> R Fw := (aD (sIf (e1 asB (gU false 3 (eV 2))) (aY (vD (eC (.str "ever")))) sNx)
 (aD (fH 3 (eV 2) (eC (.bool true)))
 (aD (bN 4 (vD (e2 dIx (e2 dIx (rV 0) (rV 2)) (eC (.int 2)))))
 (bN 2 (vD (eIf (e1 asB (eA (aV 1 dJ (aA (vV 4) aG)))) (eV 4) (e2 dIx (e2 dIx (rV 1) (eC (.int 1))) (rV 4))))))))
theorem aLF : kX = aD (bN 2 (vD (e2 dIx (rV 1) (eC (.int 0))))) (aD (iZ 3) (aD (a9 wT wB) (aY (vV 2)))) := id rfl
def wρ (rs : List Rw) (f : Tn) (bk : List Tn) (t : Tn) (ps : List Int) (u : Option A) : Sg := [some (.d (bV rs)), some (.d (gK f bk)), some (.d t.d), some (.m (been PyData.int ps)), u]
theorem aFD {rs : List Rw} {f : Tn} {bk : List Tn} {x : Str} {ps : List Int} {u : Option A} : wT (wρ rs f bk (.w x) ps u) = .ok false := by
 simp [wT, wρ, Tn.d, uR]
theorem aFE {rs : List Rw} {f : Tn} {bk : List Tn} {q : Int} {ps : List Int} {u : Option A} : wT (wρ rs f bk (.n q) ps u) = .ok true := by
 simp [wT, wρ, Tn.d, uQ]
theorem aLG {rs : List Rw} {f : Tn} {bk : List Tn} {q : Int} {ps : List Int} {u : Option A} (h : q ∈ ps) : wB (wρ rs f bk (.n q) ps u) = .ok (.rt (.d (.str "ever"))) := by
 have h1 := iN ps q
 have h2 := (l7 iM).mpr h
 simp [wB, wρ, Tn.d, h1, h2]
theorem aNY {rs : List Rw} {f : Tn} {bk : List Tn} {q : Int} {ps : List Int} {u : Option A} {x : Str} (h : q ∉ ps) (rv : cM rs q) (hp : ps.length <= 16777216) (e : (aO rs q).r = .w x) : wB (wρ rs f bk (.n q) ps u) = .ok (.nx (wρ rs f bk (.w x) (ps ++ [q]) (some (.d (.str x))))) := by
 have h1 := iN ps q
 have h2 := gE iM h
 have h3 := kB iM h
 have h4 : (been PyData.int ps).length <= 16777216 := by rw [iB]; exact hp
 have hr := nI rv.1 rv.2
 simp [wB, wρ, Tn.d, h1, h2, h3, h4, hr, cL, e, uR]
theorem aNZ {rs : List Rw} {f : Tn} {bk : List Tn} {q q' : Int} {ps : List Int} {u : Option A} (h : q ∉ ps) (rv : cM rs q) (hp : ps.length <= 16777216) (e : (aO rs q).r = .n q') (h0 : 0 <= q') (hl : q' < (bk.length : Int)) : wB (wρ rs f bk (.n q) ps u) = .ok (.nx (wρ rs f bk (bkF bk q') (ps ++ [q]) (some (.d (.int q'))))) := by
 have h1 := iN ps q
 have h2 := gE iM h
 have h3 := kB iM h
 have h4 : (been PyData.int ps).length <= 16777216 := by rw [iB]; exact hp
 have hr := nI rv.1 rv.2
 have hb := aF7 h0 hl
 simp [wB, wρ, Tn.d, h1, h2, h3, h4, hr, cL, e, uQ, gK, hb]
theorem oO {rs : List Rw} {sg : Nat} (M : Mach rs sg) {q q' : Int} (rv : cM rs q) (e : (aO rs q).r = .n q') : 0 <= q' /\ q' < (rs.length : Int) := by
 have hr := List.mem_of_getElem? (dH rv.1 rv.2)
 have := (M.row _ hr).1.2.1
 rw [e] at this
 exact this
theorem aH5 {rs : List Rw} {sg : Nat} {f : Tn} {bk : List Tn} (M : Mach rs sg) (hb : bk.length = rs.length) (hv : ∀ t ∈ bk, tnV rs.length t) {q0 : Int} : ∀ (n : Nat) (ps : List Int) (q : Int) (u : Option A), Und2 (eH rs (bkF bk)) q0 ps q -> (∀ p ∈ ps, cM rs p) -> cM rs q -> rs.length + 1 <= ps.length + n ->
  aD (a9 wT wB) (aY (vV 2)) (wρ rs f bk (.n q) ps u) = .ok (.rt (.d (.str ((aZ (eH rs (bkF bk)) q0).getD eM)))) := by
 intro n
 induction n with
 | zero =>
  intro ps q u U pv rv hn
  have := qQ U.nd pv
  omega
 | succ n ih =>
  intro ps q u U pv rv hn
  rw [bL]
  by_cases hs : q ∈ ps
  ·rw [hZ aFE (aLG hs), U.met hs]; rfl
  ·have hl : ps.length <= rs.length := qQ U.nd pv
   have hp : ps.length <= 16777216 := by have := M.len2; omega
   cases e : (aO rs q).r with
   | w x =>
    have st : eH rs (bkF bk) q = some (.inr x) := by unfold eH; rw [e]
    rw [hX aFE (aNY hs rv hp e), fK aFD, U.outs st]
    simp [wρ, Tn.d]
   | n q' =>
    obtain ⟨g1, g2⟩ := oO M rv e
    rw [hX aFE (aNZ hs rv hp e g1 (by rw [hb]; exact g2))]
    have gd := qP hv q'
    cases e2 : bkF bk q' with
    | w x =>
     have st : eH rs (bkF bk) q = some (.inr x) := by unfold eH; rw [e]; simp only; rw [e2]
     rw [fK aFD, U.outs st]
     simp [wρ, Tn.d]
    | n r =>
     rw [e2] at gd
     have st : eH rs (bkF bk) q = some (.inl r) := by unfold eH; rw [e]; simp only; rw [e2]
     have := ih (ps ++ [q]) r (some (.d (.int q'))) (U.next hs st) (fun p hp => by
      rcases List.mem_append.mp hp with z | z
      · exact pv p z
      · rw [List.mem_singleton.mp z]; exact rv) gd (by rw [List.length_append, List.length_singleton]; omega)
     rw [bL] at this
     exact this
theorem aMR {rs : List Rw} {sg : Nat} {f : Tn} {bk : List Tn} (M : Mach rs sg) (hb : bk.length = rs.length) (hv : ∀ t ∈ bk, tnV rs.length t) (hf : tnV rs.length f) : eG [.d (bV rs), .d (gK f bk)] = .ok (.d (.str (wbR rs (bkF bk) f))) := by
 have i0 : dIx (gK f bk) (.int 0) = .ok f.d := rfl
 have key : aD (a9 wT wB) (aY (vV 2)) (wρ rs f bk f [] none) = .ok (.rt (.d (.str (wbR rs (bkF bk) f)))) := by
  cases f with
  | w x =>
   rw [bL, fK aFD]
   simp [wρ, Tn.d, wbR]
  | n q => exact aH5 M hb hv (rs.length + 1) [] q none Und2.start (fun p hp => by simp at hp) hf (by simp)
 unfold eG
 rw [aLF]
 rw [bL] at key
 simp only [wρ, been, List.map_nil] at key
 simp only [kT, bL, oG, nE, oF, kL, iL, lF, List.getElem?_cons_zero, List.getElem?_cons_succ, i0, R.bind_ok, List.length_cons, List.length_nil, Nat.reduceAdd, List.map_cons, List.map_nil, List.cons_append, List.nil_append, List.replicate, List.set_cons_zero, List.set_cons_succ, key]
theorem aFF {rs : List Rw} {sg : Nat} (M : Mach rs sg) {bk bk' : Int -> Tn} (h : ∀ q, cM rs q -> bk q = bk' q) (hg : ∀ q, cM rs q -> tnV rs.length (bk q)) {t : Tn} (ht : tnV rs.length t) : wbR rs bk t = wbR rs bk' t := by
 cases t with
 | w x => rfl
 | n q =>
  have st : ∀ q, cM rs q -> eH rs bk q = eH rs bk' q := fun q rv => by
   unfold eH
   cases e : (aO rs q).r with
   | w x => rfl
   | n q' => simp only; rw [h q' (oO M rv e)]
  have nx : ∀ q q', cM rs q -> eH rs bk q = some (.inl q') -> cM rs q' := fun q q' rv e => by
   unfold eH at e
   cases e2 : (aO rs q).r with
   | w x => rw [e2] at e; cases e
   | n r =>
    rw [e2] at e
    simp only at e
    have gd := hg _ (oO M rv e2)
    split at e
    · rename_i r' er; cases e; rw [er] at gd; exact gd
    · cases e
  have a1 : ∀ n q o, cM rs q -> Ex (eH rs bk) n q o -> Ex (eH rs bk') n q o := by
   intro n q o rv hx
   induction hx with
   | @out q o e => exact .out (by rw [<- st q rv]; exact e)
   | @go q q' o n e t ih => exact .go (by rw [<- st q rv]; exact e) (ih (nx q q' rv e))
  have a2 : ∀ n q o, cM rs q -> Ex (eH rs bk') n q o -> Ex (eH rs bk) n q o := by
   intro n q o rv hx
   induction hx with
   | @out q o e => exact .out (by rw [st q rv]; exact e)
   | @go q q' o n e t ih =>
    have e' : eH rs bk q = some (.inl q') := by rw [st q rv]; exact e
    exact .go e' (ih (nx q q' rv e'))
  show (aZ (eH rs bk) q).getD eM = (aZ (eH rs bk') q).getD eM
  rw [iV (st := eH rs bk) (st' := eH rs bk') (s := q) (s' := q) fun o => ⟨fun ⟨n, x⟩ => ⟨n, a1 n q o ht x⟩, fun ⟨n, x⟩ => ⟨n, a2 n q o ht x⟩⟩]
theorem aN0 {rs : List Rw} {sg : Nat} {z : List Nat} (M : Mach rs sg) (S : bI sg z) : eG [.d (bV rs), .d (aP rs z)] = .ok (.d (.str (g5 rs z))) := by
 have hl : ((List.range rs.length).map fun q : Nat => fB rs z (q : Int)).length = rs.length := by simp
 have hv : ∀ t ∈ (List.range rs.length).map fun q : Nat => fB rs z (q : Int), tnV rs.length t := fun t ht => by
  obtain ⟨q, hq, rfl⟩ := List.mem_map.mp ht
  exact kG M S (wF (List.mem_range.mp hq))
 unfold aP
 rw [aMR M hl hv (kG M S (pT M z)), aFF M (fun q rv => uS rv) (fun q rv => qP hv q) (kG M S (pT M z)), <- aE5 M S]
 rfl
end Mc
namespace Mc
open PySem L2 PyProof.Rows Fl
theorem aDI {rs : List Rw} {sg : Nat} {z : List Nat} (M : Mach rs sg) (S : bI sg z) {s : Int × Int} (V : kF rs z s) : (gJ rs z s).ok := by
 have hev : (Tn.w eM).ok := by show PyData.strOk eM = true; decide +kernel
 unfold gJ
 cases e : aZ (bW rs z) s with
 | none => exact hev
 | some t =>
  obtain ⟨n, h⟩ := fS e
  show t.ok
  clear e
  induction h with
  | @out s o h =>
   unfold bW at h
   rcases beg_cell M S V with ⟨x, e, h0⟩ | ⟨q, e, rv, h1, h2⟩
   ·rw [e] at h
    cases h
    have hr := List.mem_of_getElem? (dH V.2.2.1 V.2.2.2)
    have := ((M.row _ hr).1.ok).1
    unfold a8 at e
    rw [if_pos h0] at e
    simp only at e
    rw [e] at this
    exact this
   ·rw [e] at h
    simp only at h
    split at h
    · cases h
    · cases h; exact trivial
  | @go s s' o n h t ih =>
   refine ih ?_
   unfold bW at h
   rcases beg_cell M S V with ⟨x, e, h0⟩ | ⟨q, e, rv, h1, h2⟩
   ·rw [e] at h; cases h
   ·rw [e] at h
    simp only at h
    split at h
    · rename_i h3; cases h; exact ⟨h1, h3, rv⟩
    · cases h
theorem aH6 {rs : List Rw} {sg : Nat} {z : List Nat} (M : Mach rs sg) (S : bI sg z) : (gJ rs z (0, 0)).ok /\ ∀ t ∈ (List.range rs.length).map fun q : Nat => fB rs z (q : Int), t.ok := ⟨aDI M S (pT M z), fun t ht => by
 obtain ⟨q, hq, rfl⟩ := List.mem_map.mp ht
 exact aDI M S (wF (List.mem_range.mp hq))⟩
theorem sE : ∀ {xs : List PyData}, (∀ x ∈ xs, eX x = true) -> dU xs = true
 | [], _ => rfl
 | x :: t, h => by
  show (eX x && dU t) = true
  rw [h x (List.mem_cons_self ..), sE fun y hy => h y (List.mem_cons_of_mem _ hy)]; rfl
theorem aDJ {t : Tn} (h : t.ok) : eX t.d = true := by
 cases t with
 | n i => rfl
 | w x => exact h
theorem aH7 {f : Tn} {bk : List Tn} (hf : f.ok) (hb : ∀ t ∈ bk, t.ok) : iO (gK f bk) = true := by
 have h1 : eX (gK f bk) = true := by
  show dU [f.d, .tuple (bk.map Tn.d)] = true
  refine sE fun x hx => ?_
  rcases List.mem_cons.mp hx with z | hx
  ·rw [z]; exact aDJ hf
  ·rw [List.mem_singleton.mp hx]
   show dU (bk.map Tn.d) = true
   refine sE fun x hx => ?_
   obtain ⟨c, hc, rfl⟩ := List.mem_map.mp hx
   exact aDJ (hb c hc)
 have h2 : Sh 3 (gK f bk) := by
  refine m6 fun x hx => ?_
  rcases List.mem_cons.mp hx with z | hx
  ·rw [z]; exact aFR _ hf
  ·rw [List.mem_singleton.mp hx]
   refine m6 fun x hx => ?_
   obtain ⟨c, hc, rfl⟩ := List.mem_map.mp hx
   exact aFR _ (hb c hc)
 show (eX (gK f bk) && decide ((gK f bk).depth <= 8)) = true
 rw [h1, decide_eq_true (Nat.le_trans h2.2 (by decide))]; rfl
def aBO (rs : List Rw) (x : PyData) (k : Nat) : PyData := match gH [.d x, .d (fA rs k)] with
 | .ok (.d y) => y
 | _ => .none
theorem aAG {rs : List Rw} {sg k : Nat} {z : List Nat} (M : Mach rs sg) (S : bI sg z) (hk : k < sg) : aBO rs (aP rs z) k = aP rs (z ++ [97 + k]) := by
 have := yC M S (c := 97 + k) (by unfold dG; exact decide_eq_true (by omega))
 rw [show 97 + k - 97 = k by omega] at this
 unfold aBO
 rw [this]
theorem oP {sg k : Nat} {z : List Nat} (S : bI sg z) (hk : k < sg) (hl : z.length < 1000) : bI sg (z ++ [97 + k]) := ⟨by simp; omega, fun c hc => by
 rcases List.mem_append.mp hc with h | h
 · exact S.2 c h
 · rw [List.mem_singleton.mp h]; unfold dG; exact decide_eq_true (by omega)⟩
end Mc
namespace Mc
open PySem L2 PyProof.Rows Fl
def tc (m : Nat) : Tn -> Nat
 | .n i => i.toNat
 | .w x => if x = "by" then m else if x = "out" then m + 1 else m + 2
structure Ctr (rs : List Rw) (sg p q : Nat) : Prop where
 len : rs.length = p + 1 + q
 p1 : 1 <= p
 p5 : p <= 5
 q1 : 1 <= q
 q5 : q <= 5
 lef : (aO rs 0).l = .n 0
 mid : (aO rs (p : Int)).l = .n ((p : Int) + 1)
 a : ∀ i : Nat, i < p -> ∀ k, k < sg -> ck k (aO rs (i : Int)) = ((((i + (if k = 0 then 1 else 0)) % p : Nat) : Int), 1)
 b : ∀ k, k < sg -> ck k (aO rs (p : Int)) = ((p : Int), -1)
 c : ∀ j : Nat, j < q -> ∀ k, k < sg -> ck k (aO rs ((p + 1 + j : Nat) : Int)) = (((p + 1 + (j + (if k = sg - 1 then 1 else 0)) % q : Nat) : Int), 1)
end Mc
namespace Mb
open Classical
section
variable {τ : Type} (g : τ -> Nat -> τ) (t0 : τ) (cs : List Nat)
variable {g t0 cs}
end
end Mb
namespace Mc
open PySem L2 PyProof.Rows Fl
def stD (z : List Nat) : PyData := .str ⟨z.toArray⟩
def sgT (sg : Nat) : Str := Txt.slice "abc" none (some (sg : Int))
theorem aAH {sg : Nat} (s1 : 1 <= sg) (s3 : sg <= 3) : (sgT sg).cps.toList = [97, 98, 99].take sg := aGR s1 s3
theorem aH8 {sg : Nat} (s1 : 1 <= sg) (s3 : sg <= 3) : (sgT sg).cps.toList.length <= 3 := by rw [aAH s1 s3, List.length_take]; simp; omega
end Mc
namespace Mc
open PySem L2 PyProof.Rows Fl
def afW (rs : List Rw) (sg : Nat) (x : PyData) : List PyData := (List.range sg).map (aBO rs x)
def bfW (rs : List Rw) (sg n : Nat) : List PyData := bfQ (afW rs sg) (aP rs []) n
def adZ (rs : List Rw) (zs : List (List Nat)) (z : List Nat) : List (List Nat) := if aP rs z ∈ zs.map (aP rs) then zs else zs ++ [z]
def cS (sg : Nat) (z : List Nat) : List (List Nat) := (List.range sg).map fun k => z ++ [97 + k]
def zsW (rs : List Rw) (sg : Nat) : Nat -> List (List Nat)
 | 0 => [[]]
 | n + 1 => match (zsW rs sg n)[n]? with
  | some z => (cS sg z).foldl (adZ rs) (zsW rs sg n)
  | none => zsW rs sg n
theorem nN (rs : List Rw) (zs : List (List Nat)) (z : List Nat) : (adZ rs zs z).map (aP rs) = adQ (zs.map (aP rs)) (aP rs z) := by
 unfold adZ adQ
 split
 · rfl
 · rw [List.map_append]; rfl
theorem oQ (rs : List Rw) (l : List (List Nat)) : ∀ zs : List (List Nat), (l.foldl (adZ rs) zs).map (aP rs) = adA (zs.map (aP rs)) (l.map (aP rs)) := by
 induction l with
 | nil => intro zs; rfl
 | cons z t ih => intro zs; rw [List.foldl_cons, ih, nN]; rfl
theorem adZ_mem {rs : List Rw} {zs : List (List Nat)} {z x : List Nat} (h : x ∈ adZ rs zs z) : x ∈ zs \/ x = z := by
 unfold adZ at h
 split at h
 ·exact .inl h
 ·rcases List.mem_append.mp h with h | h
  · exact .inl h
  · exact .inr (List.mem_singleton.mp h)
theorem adZs_mem {rs : List Rw} {x : List Nat} (l : List (List Nat)) : ∀ {zs : List (List Nat)}, x ∈ l.foldl (adZ rs) zs -> x ∈ zs \/ x ∈ l := by
 induction l with
 | nil => intro zs h; exact .inl h
 | cons z t ih =>
  intro zs h
  rcases ih (zs := adZ rs zs z) h with h | h
  ·rcases adZ_mem h with h | h
   · exact .inl h
   · exact .inr (by rw [h]; exact List.mem_cons_self)
  ·exact .inr (List.mem_cons_of_mem _ h)
theorem aH9 (rs : List Rw) (zs : List (List Nat)) (z : List Nat) : zs <+: adZ rs zs z := by
 unfold adZ
 split
 · exact List.prefix_refl _
 · exact List.prefix_append ..
theorem aFG (rs : List Rw) (l : List (List Nat)) : ∀ zs : List (List Nat), zs <+: l.foldl (adZ rs) zs := by
 induction l with
 | nil => exact fun zs => List.prefix_refl _
 | cons z t ih => exact fun zs => (aH9 rs zs z).trans (ih _)
theorem yE {rs : List Rw} {sg : Nat} {z : List Nat} (M : Mach rs sg) (S : bI sg z) : (cS sg z).map (aP rs) = afW rs sg (aP rs z) := by
 unfold cS afW
 rw [List.map_map]
 exact List.map_congr_left fun k hk => (aAG M S (List.mem_range.mp hk)).symm
structure ZsOk (rs : List Rw) (sg n : Nat) (zs : List (List Nat)) : Prop where
 map : zs.map (aP rs) = bfW rs sg n
 ok : ∀ z ∈ zs, bI sg z /\ z.length <= n
theorem aIA {sg n : Nat} {z x : List Nat} (S : bI sg z) (hl : z.length <= n) (hn : n < 900) (h : x ∈ cS sg z) : bI sg x /\ x.length <= n + 1 := by
 obtain ⟨k, hk, rfl⟩ := List.mem_map.mp h
 exact ⟨oP S (List.mem_range.mp hk) (by omega), by simp; omega⟩
theorem l9 {rs : List Rw} {sg : Nat} (M : Mach rs sg) : ∀ n, n <= 900 -> ZsOk rs sg n (zsW rs sg n) := by
 intro n
 induction n with
 | zero => exact fun _ => ⟨rfl, fun z hz => by rw [List.mem_singleton.mp hz]; exact ⟨⟨by simp, fun c hc => by simp at hc⟩, by simp⟩⟩
 | succ n ih =>
  intro hn
  obtain ⟨h1, h2⟩ := ih (by omega)
  unfold bfW at h1
  have e : (bfQ (afW rs sg) (aP rs []) n)[n]? = ((zsW rs sg n)[n]?).map (aP rs) := by rw [<- h1, List.getElem?_map]
  cases q : (zsW rs sg n)[n]? with
  | none =>
   rw [q] at e
   refine ⟨?_, fun z hz => ?_⟩
   ·unfold bfW
    rw [zsW, bfQ, q, e]; exact h1
   ·rw [zsW, q] at hz
    have := h2 z hz
    exact ⟨this.1, by omega⟩
  | some z =>
   rw [q] at e
   have hz := h2 z (List.mem_of_getElem? q)
   refine ⟨?_, fun x hx => ?_⟩
   ·unfold bfW
    rw [zsW, bfQ, q, e]
    simp only [Option.map_some]
    rw [oQ, h1, yE M hz.1]
   ·rw [zsW, q] at hx
    rcases adZs_mem _ hx with hx | hx
    ·have := h2 x hx
     exact ⟨this.1, by omega⟩
    ·exact aIA hz.1 hz.2 (by omega) hx
structure EndW (rs : List Rw) (sg most N : Nat) : Prop where
 on : ∀ m, m < N -> m < (bfW rs sg m).length /\ (bfW rs sg m).length <= most
 off : (bfW rs sg N).length <= N \/ most < (bfW rs sg N).length
theorem aFH {P : Nat -> Prop} : ∀ K : Nat, P K -> ∃ n, n <= K /\ P n /\ ∀ m, m < n -> ¬ P m := by
 intro K
 induction K using Nat.strongRecOn with
 | _ K ih =>
  intro h
  by_cases q : ∃ m, m < K /\ P m
  ·obtain ⟨m, h1, h2⟩ := q
   obtain ⟨n, a, b, c⟩ := ih m h1 h2
   exact ⟨n, by omega, b, c⟩
  ·exact ⟨K, Nat.le_refl _, h, fun m hm hp => q ⟨m, hm, hp⟩⟩
theorem aIB (rs : List Rw) (sg most : Nat) : ∃ N, N <= most /\ EndW rs sg most N := by
 obtain ⟨n, h1, h2, h3⟩ := aFH (P := fun n => (bfW rs sg n).length <= n \/ most < (bfW rs sg n).length) most (by omega)
 exact ⟨n, h1, fun m hm => by have := h3 m hm; omega, h2⟩
theorem EndW.full {rs : List Rw} {sg most N : Nat} (E : EndW rs sg most N) (h : (bfW rs sg N).length <= most) : (bfW rs sg N).length = N := by
 rcases E.off with q | q
 ·cases N with
  | zero => have : (bfW rs sg 0).length = 1 := rfl; omega
  | succ n =>
   have h1 := (E.on n (by omega)).1
   have h2 : (bfW rs sg n).length <= (bfW rs sg (n + 1)).length := (iC _ _ n).length_le
   omega
 ·omega
def aN1 (rs : List Rw) (sg : Nat) : Sq where
 after := afW rs sg
 x0 := aP rs []
 stop fs _ := decide (200 < fs.length)
 k1 := 4
 k2 := 1
 G := jU 2 dC [.d (.list ((List.range sg).map (fA rs)))]
 D := jU 2 eD []
theorem vW {rs : List Rw} {sg n : Nat} (M : Mach rs sg) (hn : n <= 900) {x : PyData} (h : x ∈ bfW rs sg n) : ∃ z, bI sg z /\ x = aP rs z := by
 obtain ⟨h1, h2⟩ := l9 M n hn
 rw [<- h1] at h
 obtain ⟨z, hz, rfl⟩ := List.mem_map.mp h
 exact ⟨z, (h2 z hz).1, rfl⟩
theorem mQ {rs : List Rw} {sg : Nat} {z : List Nat} (M : Mach rs sg) (S : bI sg z) : iO (aP rs z) = true := by
 obtain ⟨o1, o2⟩ := aH6 M S
 exact aH7 o1 o2
theorem aAI {rs : List Rw} {sg most N : Nat} (M : Mach rs sg) (E : EndW rs sg most N) (hm : 1 <= most) : (bfW rs sg N).length <= most + 3 := by
 cases N with
 | zero => show 1 <= most + 3; omega
 | succ n =>
  obtain ⟨h1, h2⟩ := E.on n (by omega)
  have hx : (bfQ (afW rs sg) (aP rs []) n)[n]? = some (bfQ (afW rs sg) (aP rs []) n)[n] := List.getElem?_eq_getElem h1
  have h3 := aAD (afW rs sg (bfQ (afW rs sg) (aP rs []) n)[n]) (bfQ (afW rs sg) (aP rs []) n)
  rw [<- oM hx] at h3
  have h4 : (afW rs sg (bfQ (afW rs sg) (aP rs []) n)[n]).length = sg := by unfold afW; simp
  have := M.sg3
  unfold bfW at h2 ⊢
  omega
theorem aIC {rs : List Rw} {sg N : Nat} (M : Mach rs sg) (E : EndW rs sg 200 N) (hN : N <= 200) : (aN1 rs sg).ok N where
 on m h := ⟨(E.on m h).1, decide_eq_false (by have := (E.on m h).2; unfold bfW at this; show ¬ 200 < (bfQ (afW rs sg) (aP rs []) m).length; omega)⟩
 off := E.off.imp id fun h => decide_eq_true h
 key := .inl fun x hx => by
  obtain ⟨z, S, rfl⟩ := vW M (by omega) (show x ∈ bfW rs sg N from hx)
  exact mQ M S
 len := by have := aAI M E (by omega); show (bfW rs sg N).length <= _; omega
 hk1 := by show 4 <= 12; decide
 hk2 := by show 1 <= 12; decide
 hG m x hm hx := by
  obtain ⟨z, S, rfl⟩ := vW M (show N <= 900 by omega) (List.mem_of_getElem? hx)
  have hc := fQ (fs := stN 0) (fe := eA (aV 2 gH (aA (vV 1) (aA (vV 0) aG)))) (ρ0 := [none, some (.d (aP rs z))]) (d := fA rs) (g := aBO rs (aP rs z)) (xs := List.range sg) fun k hk => by
   refine ⟨_, rfl, ?_⟩
   have hk := List.mem_range.mp hk
   have := yC M S (c := 97 + k) (by unfold dG; exact decide_eq_true (by omega))
   rw [show 97 + k - 97 = k by omega, <- aAG M S hk] at this
   simp [this]
  have hi := kA (xs := (List.range sg).map (fA rs)) (by have := M.sg3; simp; omega)
  have hl : (afW rs sg (aP rs z)).length = sg := by unfold afW; simp
  have h3 := M.sg3
  refine ⟨⟨.list (afW rs sg (aP rs z)), ?_, kA (by omega)⟩, by show (afW rs sg (aP rs z)).length <= _; omega⟩
  show jU 2 dC [.d (.list ((List.range sg).map (fA rs)))] [aP rs z] = _
  unfold jU dC
  simp [hi, f9, hc, dOf]
  rfl
 hD m hm hl := by
  show jU 2 eD [] [.list (bfW rs sg m), .int (m : Int)] = .ok (.bool (decide (200 < (bfW rs sg m).length)))
  unfold jU eD
  simp [gC, dOf]
  omega
def sG (rs : List Rw) (sg N : Nat) : PyData := .tuple [.tuple (bX (afW rs sg) (bfW rs sg N) N), .tuple ((zsW rs sg N).map fun z => .str (g5 rs z))]
theorem aLH {rs : List Rw} {sg N : Nat} (M : Mach rs sg) (E : EndW rs sg 200 N) (hN : N <= 200) : jK [.d (bV rs)] = if 200 < (bfW rs sg N).length then .ex ⟨"TooMany", []⟩ else .ok (.d (sG rs sg N)) := by
 have O := aIC M E hN
 have e := aNX O
 obtain ⟨r, t, hrs, hr⟩ := M.cons
 have hsg : iJ [.d (bV rs)] = .ok (.d (.int sg)) := by rw [hrs, aHR, hr]
 have hrg := jM (n := sg) (by have := M.sg3; omega)
 have hc := aK9 M [some (.d (bV rs)), none, none, none, none] rfl
 rw [show f9 [none, some 0] [some (.d (bV rs)), none, none, none, none] = [none, some (.d (bV rs))] from rfl] at hc
 have hw := aMN M
 have Z := l9 M N (by omega)
 have hcw := fQ (fs := stN 0) (fe := eA (aV 2 eG (aA (vV 1) (aA (vV 0) aG)))) (ρ0 := [none, some (.d (bV rs))]) (d := aP rs) (g := fun z => .str (g5 rs z)) (xs := zsW rs sg N) fun z hz => by
  refine ⟨_, rfl, ?_⟩
  have := aN0 M (Z.ok z hz).1
  simp [this]
 rw [Z.map] at hcw
 have hbl := aAI M E (by omega)
 have hif := kA (xs := bfW rs sg N) (by omega)
 have e : jJ [.d (aP rs []), .g 4 1 (jU 2 dC [.d (.list ((List.range sg).map (fA rs)))]), .g 1 2 (jU 2 eD [])] = .ok (.d (.tuple [.list (bfW rs sg N), .list (bX (afW rs sg) (bfW rs sg N) N)])) := e
 generalize hgs : bX (afW rs sg) (bfW rs sg N) N = gs at e
 have hgl : gs.length <= 16777216 := by rw [<- hgs]; unfold bX; rw [List.length_map, List.length_take]; omega
 have i0 : dIx (.tuple [.list (bfW rs sg N), .list gs]) (.int 0) = .ok (.list (bfW rs sg N)) := rfl
 have i1 : dIx (.tuple [.list (bfW rs sg N), .list gs]) (.int 1) = .ok (.list gs) := rfl
 have hzl : (zsW rs sg N).length <= 16777216 := by
  have : ((zsW rs sg N).map (aP rs)).length <= 16777216 := by rw [Z.map]; omega
  rwa [List.length_map] at this
 by_cases h : 200 < (bfW rs sg N).length
 ·have hn : (200 : Int) < ((bfW rs sg N).length : Int) := by omega
  rw [if_pos h]
  unfold jK mM
  simp [hsg, hrg, hc, hw, wD, pN, tN, xN, gO, tL, e, dOf, i0, i1, gC, hn, uO, few, f9]
 ·have hn : ¬ (200 : Int) < ((bfW rs sg N).length : Int) := by omega
  rw [if_neg h]
  unfold jK mM sG
  rw [hgs]
  simp [hsg, hrg, hc, hw, wD, pN, tN, xN, gO, tL, e, dOf, i0, i1, gC, hn, hif, f9, hcw]
def wyF : Sg -> R Fw := (aD (bN 8 (vD (e2 cN (e2 dIx (rV 3) (e1 dLen (rV 5))) (rV 7))))
 (aD (bN 9 (aV 2 dE (aA (vV 0) (aA (vV 8) aG))))
 (aD (sIf (e1 asB (gU true 4 (eV 9))) (aD (fH 4 (eV 9) (e1 dLen (rV 3)))
 (dB 3 (eV 8))) sNx)
 (dB 6 (mK 4 (eV 9))))))
def wyT : Sg -> R Bool := (e1 asB (e2 dLt (e1 dLen (rV 5)) (e1 dLen (rV 3))))
def wyB : Sg -> R Fw := (aD (cR 6 (cY aG))
 (aD (jT (e1 bT (eSl dSl (eC (.str "abc")) oNo (oSo (rV 1)))) (stN 7) wyF)
 (aD (dB 5 (e1 dTup (rV 6)))
 (sIf (e1 asB (e2 dGt (e1 dLen (rV 3)) (rV 2))) (aY (vD (eC .none))) sNx))))
def wyE : Sg -> R Fw := (sFz 3 (aY (vD (cG (aA (eV 3) (aA (e1 dTup (rV 5)) (aA (e1 dTup (eL (fG [none, some 0] (e1 bT (rV 3)) (stN 0) gS (eA (aV 2 iX (aA (vV 1) (aA (vV 0) aG))))))) aG)))))))
theorem aLI : rF = (aD (cR 3 (cY (aA (eC (.str "")) aG)))
 (aD (n9 4 (n8 (eA (aV 2 dE (aA (vV 0) (aA (vD (eC (.str ""))) aG)))) (eC (.int 0)) r0))
 (aD (cR 5 (cY aG)) (aD (a9 wyT wyB) wyE)))) := id rfl
def wyρ (rs : List Rw) (sg most : Nat) (zs : List (List Nat)) (gs : List PyData) (u v w x : Option A) : Sg := [some (.d (bV rs)), some (.d (.int (sg : Int))), some (.d (.int (most : Int))), some (.l (zs.map stD)), some (.m (fT (zs.map (aP rs)))), some (.l gs), u, v, w, x]
theorem aID {sg : Nat} (s1 : 1 <= sg) (s3 : sg <= 3) : (sgT sg).cps.toList = (List.range sg).map (97 + ·) := by
 rw [aAH s1 s3]
 rcases (by omega : sg = 1 \/ sg = 2 \/ sg = 3) with rfl | rfl | rfl <;> rfl
theorem aLJ {rs : List Rw} {sg most : Nat} {zs : List (List Nat)} {gs : List PyData} {z : List Nat} {v w x : Option A} (M : Mach rs sg) (hz : zs[gs.length]? = some z) (nd : (zs.map (aP rs)).Nodup) (hs : ∀ y ∈ zs, bI sg y) (hl : z.length < 900) (hlen : zs.length <= 1000) :
  ∃ v' w' x', lY (stN 7) wyF ((List.range sg).map fun k : Nat => .str ⟨#[97 + k]⟩) (wyρ rs sg most zs gs (some (.l [])) v w x) = .ok (.nx (wyρ rs sg most ((cS sg z).foldl (adZ rs) zs) gs (some (.l (((afW rs sg (aP rs z)).map (nrQ (((cS sg z).foldl (adZ rs) zs).map (aP rs)))).map fun j : Nat => .int (j : Int)))) v' w' x')) := by
 have s3 := M.sg3
 have Sz := hs z (List.mem_of_getElem? hz)
 obtain ⟨ρ', q1, v', w', x', q2⟩ := i8 (fs := stN 7) (fb := wyF) (d := fun k : Nat => PyData.str ⟨#[97 + k]⟩) (xs := List.range sg) (ρ := wyρ rs sg most zs gs (some (.l [])) v w x)
  (fun i ρ => ∃ v' w' x', ρ = wyρ rs sg most (((cS sg z).take i).foldl (adZ rs) zs) gs (some (.l ((((cS sg z).take i).map fun y => nrQ ((((cS sg z).take i).foldl (adZ rs) zs).map (aP rs)) (aP rs y)).map fun j : Nat => .int (j : Int)))) v' w' x') ⟨v, w, x, rfl⟩ fun i k ρ hi ⟨v', w', x', e⟩ => by
  have hil := (List.getElem?_eq_some_iff.mp hi).1
  rw [List.length_range] at hil
  rw [List.getElem?_range hil] at hi
  cases hi
  have hy : (cS sg z)[i]? = some (z ++ [97 + i]) := by unfold cS; rw [List.getElem?_map, List.getElem?_range hil]; rfl
  have Sy : bI sg (z ++ [97 + i]) := oP Sz hil (by omega)
  have ht : (cS sg z).take (i + 1) = (cS sg z).take i ++ [z ++ [97 + i]] := by rw [List.take_add_one, hy]; rfl
  have hsi : ∀ x ∈ ((cS sg z).take i).foldl (adZ rs) zs, bI sg x := fun x hx => by
   rcases adZs_mem _ hx with h | h
   ·exact hs x h
   ·obtain ⟨k, hk, rfl⟩ := List.mem_map.mp (List.mem_of_mem_take h)
    exact oP Sz (List.mem_range.mp hk) (by omega)
  have hmem : ∀ y ∈ (cS sg z).take i, aP rs y ∈ (((cS sg z).take i).foldl (adZ rs) zs).map (aP rs) := fun y hy => by
   rw [oQ]; exact nL _ (List.mem_map_of_mem hy)
  have ndi : ((((cS sg z).take i).foldl (adZ rs) zs).map (aP rs)).Nodup := by rw [oQ]; exact tY _ nd
  have hzi : (((cS sg z).take i).foldl (adZ rs) zs)[gs.length]? = some z := sD (aFG rs _ zs) hz
  have hleni : (((cS sg z).take i).foldl (adZ rs) zs).length <= 1003 := by
   have h1 := aAD (((cS sg z).take i).map (aP rs)) (zs.map (aP rs))
   rw [<- oQ, List.length_map, List.length_map, List.length_map, List.length_take] at h1
   omega
  rw [ht, List.foldl_append, List.foldl_cons, List.foldl_nil]
  generalize hF : ((cS sg z).take i).foldl (adZ rs) zs = F at *
  have hrow : ((cS sg z).take i ++ [z ++ [97 + i]]).map (fun y => nrQ ((adZ rs F (z ++ [97 + i])).map (aP rs)) (aP rs y)) = ((cS sg z).take i).map (fun y => nrQ (F.map (aP rs)) (aP rs y)) ++ [nrQ ((adZ rs F (z ++ [97 + i])).map (aP rs)) (aP rs (z ++ [97 + i]))] := by
   rw [List.map_append, List.map_singleton]
   congr 1
   refine List.map_congr_left fun y hy => ?_
   rw [nN]
   exact qS (nK _ _) (hmem y hy)
  rw [hrow]
  have hb := aDF M (z := ⟨(z ++ [97 + i]).toArray⟩) (by simpa using Sy)
  simp only [List.toList_toArray] at hb
  have hix : dIx (.list (F.map stD)) (.int (gs.length : Int)) = .ok (stD z) := oI (jE (by rw [List.getElem?_map, hzi]; rfl))
  have had : cN (stD z) (.str ⟨#[97 + i]⟩) = .ok (.str ⟨(z ++ [97 + i]).toArray⟩) := by
   unfold stD
   have hzl : z.length + 1 <= 16777216 := by omega
   rw [aKU (by show z.toArray.size + 1 <= 16777216; rw [List.size_toArray]; exact hzl), show (⟨z.toArray⟩ : Str) ++ (⟨#[97 + i]⟩ : Str) = ⟨(z ++ [97 + i]).toArray⟩ by
    show (⟨z.toArray ++ #[97 + i]⟩ : Str) = _
    simp]
  have hk : ∀ x ∈ F.map (aP rs), iO x = true := fun x hx => by
   obtain ⟨y, hy, rfl⟩ := List.mem_map.mp hx
   exact mQ M (hsi y hy)
  have hky := mQ M Sy
  have s1 := yD hky hk
  have nd2 : ((adZ rs F (z ++ [97 + i])).map (aP rs)).Nodup := by rw [nN]; exact aDG ndi
  have g2 := aAE nd2 (y := aP rs (z ++ [97 + i])) (by rw [nN]; exact qR _ _)
  have hk2 : ∀ x ∈ (adZ rs F (z ++ [97 + i])).map (aP rs), iO x = true := fun x hx => by
   rw [nN] at hx
   by_cases q : aP rs (z ++ [97 + i]) ∈ F.map (aP rs)
   ·rw [nJ q] at hx; exact hk x hx
   ·rw [lP q] at hx
    rcases List.mem_append.mp hx with h | h
    · exact hk x h
    · rw [List.mem_singleton.mp h]; exact hky
  have s2 := yD hky hk2
  have hil2 : (fT (F.map (aP rs))).length <= 16777216 := by rw [aAB, List.length_map]; omega
  have hFl : F.length < 16777216 := by omega
  have htl : min i (cS sg z).length < 16777216 := by omega
  refine ⟨wyρ rs sg most F gs (some (.l ((((cS sg z).take i).map fun y => nrQ (F.map (aP rs)) (aP rs y)).map fun j : Nat => .int (j : Int)))) (some (.d (.str ⟨#[97 + i]⟩))) w' x', _, by rw [e]; simp [wyρ], .inl ?_, some (.d (.str ⟨#[97 + i]⟩)), some (.d (.str ⟨(z ++ [97 + i]).toArray⟩)), some (.d (aP rs (z ++ [97 + i]))), rfl⟩
  by_cases q : aP rs (z ++ [97 + i]) ∈ F.map (aP rs)
  ·have a1 := uT.mpr q
   have ez : adZ rs F (z ++ [97 + i]) = F := if_pos q
   rw [ez] at s2 g2 ⊢
   simp only [wyF, wyρ, bL, nE, oF, kL, kK, iL, tO, wE, l5, i7, gB, List.getElem?_cons_zero, List.getElem?_cons_succ, R.bind_ok, gC, hix, had, List.set_cons_zero, List.set_cons_succ, List.length_cons, List.length_nil, Nat.reduceAdd, if_true, hb, l6, z4, s1, a1, nF, Bool.not_true, Bool.false_eq_true, if_false, xS, uP, xU, g2, List.length_map, List.length_take, htl]
   simp
  ·have a1 := sC q
   have a2 := aAC q
   have ez : adZ rs F (z ++ [97 + i]) = F ++ [z ++ [97 + i]] := if_neg q
   rw [ez] at s2 g2 ⊢
   rw [List.length_map] at a2
   rw [List.map_append, List.map_singleton] at s2 g2
   simp only [wyF, wyρ, bL, nE, oF, kL, kK, iL, tO, wE, l5, i7, gB, List.getElem?_cons_zero, List.getElem?_cons_succ, R.bind_ok, gC, hix, had, List.set_cons_zero, List.set_cons_succ, List.length_cons, List.length_nil, Nat.reduceAdd, if_true, hb, l6, z4, s1, a1, nF, Bool.not_false, aEZ, a2, hil2, hFl, uP, xU, s2, g2, List.length_map, List.length_take, htl]
   simp [stD, hFl, s2, g2, htl]
 have htk : (cS sg z).take (List.range sg).length = cS sg z := List.take_of_length_le (by unfold cS; simp)
 rw [htk] at q2
 refine ⟨v', w', x', ?_⟩
 rw [q1, q2, <- yE M Sz]
 simp only [List.map_map]
 rfl
theorem aIE {rs : List Rw} {sg most m : Nat} {gs : List PyData} {u v w x : Option A} (M : Mach rs sg) (hm : m < 900) (hg : gs.length = m) (hon : m < (bfW rs sg m).length) (hle : (bfW rs sg m).length <= 900) :
  ∃ y u' v' w' x', (bfW rs sg m)[m]? = some y /\ wyB (wyρ rs sg most (zsW rs sg m) gs u v w x) = if most < (bfW rs sg (m + 1)).length then .ok (.rt (.d .none)) else .ok (.nx (wyρ rs sg most (zsW rs sg (m + 1)) (gs ++ [oN (afW rs sg) (bfW rs sg (m + 1)) y]) u' v' w' x')) := by
 have Z := l9 M m (by omega)
 have Z1 := l9 M (m + 1) (by omega)
 have hzl : (zsW rs sg m).length = (bfW rs sg m).length := by rw [<- Z.map, List.length_map]
 have hzl1 : (zsW rs sg (m + 1)).length = (bfW rs sg (m + 1)).length := by rw [<- Z1.map, List.length_map]
 have hz : (zsW rs sg m)[m]? = some (zsW rs sg m)[m] := List.getElem?_eq_getElem (by omega)
 generalize (zsW rs sg m)[m] = z at hz
 have Sz := Z.ok z (List.mem_of_getElem? hz)
 have hy : (bfW rs sg m)[m]? = some (aP rs z) := by rw [<- Z.map, List.getElem?_map, hz]; rfl
 have e1 : zsW rs sg (m + 1) = (cS sg z).foldl (adZ rs) (zsW rs sg m) := by rw [zsW, hz]
 obtain ⟨v', w', x', q⟩ := aLJ (most := most) (v := v) (w := w) (x := x) M (by rw [hg]; exact hz) (by rw [Z.map]; exact aDH _ _ m) (fun y hy => (Z.ok y hy).1) (by have := Sz.2; omega) (by omega)
 rw [<- e1, Z1.map] at q
 have hsl : dSl (.str "abc") none (some (sg : Int)) = .ok (.str (sgT sg)) := aMK (by decide)
 have hi : bT (.str (sgT sg)) = .ok ((List.range sg).map fun k : Nat => .str ⟨#[97 + k]⟩) := by
  rw [aE0 (by have := aH8 M.sg1 M.sg3; omega), aID M.sg1 M.sg3, List.map_map]; rfl
 have hal : ((afW rs sg (aP rs z)).map (nrQ (bfW rs sg (m + 1)))).length <= 16777216 := by unfold afW; have := M.sg3; simp; omega
 have hgl : gs.length < 16777216 := by omega
 refine ⟨aP rs z, some (.l (((afW rs sg (aP rs z)).map (nrQ (bfW rs sg (m + 1)))).map fun j : Nat => .int (j : Int))), v', w', x', hy, ?_⟩
 simp only [wyρ] at q
 have hc : decide ((most : Int) < ((bfW rs sg (m + 1)).length : Int)) = decide (most < (bfW rs sg (m + 1)).length) := by
  by_cases h : most < (bfW rs sg (m + 1)).length
  · rw [decide_eq_true h, decide_eq_true (by omega)]
  · rw [decide_eq_false h, decide_eq_false (by omega)]
 have hal2 : (afW rs sg (aP rs z)).length <= 16777216 := by simpa using hal
 simp only [wyB, wyρ, bL, j9, lN, gB, R.bind_ok, List.length_nil, Nat.zero_le, if_true, List.set_cons_zero, List.set_cons_succ, qN, kK, aKL, lF, aKM, aKN, iL, List.getElem?_cons_zero, List.getElem?_cons_succ, hsl, hi, q, uP, aC5, hgl, l6, kL, gC, List.length_map, hzl1]
 by_cases h : most < (bfW rs sg (m + 1)).length
 ·have h' : (most : Int) < ((bfW rs sg (m + 1)).length : Int) := by omega
  rw [if_pos h]
  simp [h', hzl1, hal2]
 ·have h' : ¬ (most : Int) < ((bfW rs sg (m + 1)).length : Int) := by omega
  rw [if_neg h]
  simp [h', hzl1, hal2, oN, fC]
theorem aIF {rs : List Rw} {sg most N : Nat} (M : Mach rs sg) (E : EndW rs sg most N) (hm : most <= 800) (h1 : 1 <= most) (hN : N <= most) : ∀ (k m : Nat) (u v w x : Option A), m + k = N -> ((bfW rs sg m).length <= most) ->
  (most < (bfW rs sg N).length /\ aD (a9 wyT wyB) wyE (wyρ rs sg most (zsW rs sg m) (bX (afW rs sg) (bfW rs sg m) m) u v w x) = .ok (.rt (.d .none))) \/
  ((bfW rs sg N).length <= most /\ ∃ u' v' w' x', aD (a9 wyT wyB) wyE (wyρ rs sg most (zsW rs sg m) (bX (afW rs sg) (bfW rs sg m) m) u v w x) = wyE (wyρ rs sg most (zsW rs sg N) (bX (afW rs sg) (bfW rs sg N) N) u' v' w' x')) := by
 have hT : ∀ (m : Nat) (u v w x : Option A), m <= N -> m <= (bfW rs sg m).length -> wyT (wyρ rs sg most (zsW rs sg m) (bX (afW rs sg) (bfW rs sg m) m) u v w x) = .ok (decide (m < (bfW rs sg m).length)) := fun m u v w x hmN hl => by
  have Z := l9 M m (by omega)
  have hzl : (zsW rs sg m).length = (bfW rs sg m).length := by rw [<- Z.map, List.length_map]
  have hg : (bX (afW rs sg) (bfW rs sg m) m).length = m := by unfold bX; rw [List.length_map, List.length_take]; omega
  simp only [wyT, wyρ, kK, kL, iL, List.getElem?_cons_zero, List.getElem?_cons_succ, R.bind_ok, gC, List.length_map, hzl, hg]
  simp
 have hrl : ∀ m, m <= N -> m <= (bfW rs sg m).length := fun m h => by
  cases m with
  | zero => omega
  | succ n => have a := (E.on n (by omega)).1; have b : (bfW rs sg n).length <= (bfW rs sg (n + 1)).length := (iC _ _ n).length_le; omega
 intro k
 induction k with
 | zero =>
  intro m u v w x hk hl
  have hk : m = N := by omega
  subst hk
  have hf := E.full hl
  refine .inr ⟨hl, u, v, w, x, ?_⟩
  rw [bL, fK (by rw [hT m u v w x (Nat.le_refl _) (by omega), decide_eq_false (by omega)])]
  rfl
 | succ k ih =>
  intro m u v w x hk hl
  have hlt : m < N := by omega
  have hle := hrl m (by omega)
  have hg : (bX (afW rs sg) (bfW rs sg m) m).length = m := by unfold bX; rw [List.length_map, List.length_take]; omega
  obtain ⟨y, u', v', w', x', hy, q⟩ := aIE (most := most) (u := u) (v := v) (w := w) (x := x) M (by omega) hg (E.on m hlt).1 (by omega)
  have ht : wyT (wyρ rs sg most (zsW rs sg m) (bX (afW rs sg) (bfW rs sg m) m) u v w x) = .ok true := by rw [hT m u v w x (by omega) hle, decide_eq_true (E.on m hlt).1]
  by_cases hbig : most < (bfW rs sg (m + 1)).length
  ·rw [if_pos hbig] at q
   have hmN : m + 1 = N := by
    rcases Nat.lt_or_ge (m + 1) N with h | h
    ·have := (E.on _ h).2; omega
    ·omega
   rw [hmN] at hbig
   refine .inl ⟨hbig, ?_⟩
   rw [bL, hZ ht q]; rfl
  ·rw [if_neg hbig] at q
   have e : bX (afW rs sg) (bfW rs sg m) m ++ [oN (afW rs sg) (bfW rs sg (m + 1)) y] = bX (afW rs sg) (bfW rs sg (m + 1)) (m + 1) := by
    unfold bX bfW at *
    have htk : (bfQ (afW rs sg) (aP rs []) (m + 1)).take (m + 1) = (bfQ (afW rs sg) (aP rs []) m).take m ++ [y] := by
     obtain ⟨t, et⟩ := iC (afW rs sg) (aP rs []) m
     have hml := (List.getElem?_eq_some_iff.mp hy).1
     rw [<- et, List.take_append_of_le_length (by omega), List.take_add_one, hy]; rfl
    rw [htk, List.map_append, List.map_singleton]
    congr 1
    refine List.map_congr_left fun y hy => ?_
    unfold oN
    congr 1
    refine List.map_congr_left fun z hz => ?_
    obtain ⟨j, hj⟩ := List.getElem?_of_mem hy
    have hjl : j < m := by
     have := (List.getElem?_eq_some_iff.mp hj).1
     rw [List.length_take] at this; omega
    rw [List.getElem?_take, if_pos hjl] at hj
    refine (qS (iC (afW rs sg) (aP rs []) m) ?_).symm
    have hj2 : (bfQ (afW rs sg) (aP rs []) j)[j]? = some y := vU (nM (by omega)) ((E.on j (by omega)).1) hj
    have := nL (fs := bfQ (afW rs sg) (aP rs []) j) _ hz
    rw [<- oM hj2] at this
    exact (nM (by omega)).subset this
   rw [e] at q
   have := ih (m + 1) u' v' w' x' (by omega) (by omega)
   rw [bL, hX ht q]
   rw [bL] at this
   exact this
def qT (rs : List Rw) (sg N : Nat) : PyData := .tuple [.list ((zsW rs sg N).map stD), .tuple (bX (afW rs sg) (bfW rs sg N) N), .tuple ((zsW rs sg N).map fun z => .str (g5 rs z))]
theorem aLK {rs : List Rw} {sg most N : Nat} (M : Mach rs sg) (E : EndW rs sg most N) (hm : most <= 800) (h1 : 1 <= most) (hN : N <= most) : kN [.d (bV rs), .d (.int (sg : Int)), .d (.int (most : Int))] = if most < (bfW rs sg N).length then .ok (.d .none) else .ok (.d (qT rs sg N)) := by
 have key := aIF M E hm h1 hN N 0 none none none none (by omega) (by show 1 <= most; exact h1)
 have hb := aDF M (z := "") ⟨by show 0 <= 1000; omega, fun c hc => nomatch hc⟩
 have hb : dE [.d (bV rs), .d (.str "")] = .ok (.d (aP rs [])) := hb
 have hk := mQ M (z := []) ⟨by simp, fun c hc => by simp at hc⟩
 have hs : cQ (aP rs []) [] = true := by unfold cQ; rw [hk]; rfl
 have hp : Fl.gA [] [(aP rs [], .int 0)] = .ok [(aP rs [], .int 0)] := by simp [Fl.gA, hs, putM, d9, iP]
 have run : ∀ r, aD (a9 wyT wyB) wyE (wyρ rs sg most (zsW rs sg 0) (bX (afW rs sg) (bfW rs sg 0) 0) none none none none) = r -> kN [.d (bV rs), .d (.int (sg : Int)), .d (.int (most : Int))] = match r with | .bad => .bad | .ex e => .ex e | .ok (.rt a) => .ok a | .ok (.nx _) => .ok (.d .none) | .ok _ => .bad := fun r hr => by
  have hr : aD (a9 wyT wyB) wyE [some (.d (bV rs)), some (.d (.int (sg : Int))), some (.d (.int (most : Int))), some (.l [.str ""]), some (.m [(aP rs [], .int 0)]), some (.l []), none, none, none, none] = r := hr
  unfold kN
  rw [aLI]
  simp only [kT, bL, j9, lN, i7, gB, lF, aE8, aE9, aH0, aBJ, l5, tO, oF, R.bind_ok, List.length_cons, List.length_nil, Nat.reduceAdd, Nat.reduceSub, List.map_cons, List.map_nil, List.cons_append, List.nil_append, List.replicate, List.getElem?_cons_zero, List.getElem?_cons_succ, if_true, List.set_cons_zero, List.set_cons_succ, hb, xR, hp, Nat.reduceLeDiff, Nat.zero_le]
  rw [bL] at hr
  rw [hr]
  cases r with
  | bad => rfl
  | ex e => rfl
  | ok w => cases w <;> rfl
 rcases key with ⟨hbig, q⟩ | ⟨hsm, u, v, w, x, q⟩
 ·rw [if_pos hbig, run _ q]
 ·have Z := l9 M N (by omega)
  have hzl : (zsW rs sg N).length = (bfW rs sg N).length := by rw [<- Z.map, List.length_map]
  rw [if_neg (by omega)]
  have hcw := fQ (fs := stN 0) (fe := eA (aV 2 iX (aA (vV 1) (aA (vV 0) aG)))) (ρ0 := [none, some (.d (bV rs))]) (d := stD) (g := fun z => .str (g5 rs z)) (xs := zsW rs sg N) fun z hz => by
   refine ⟨_, rfl, ?_⟩
   have := aK0 M (z := ⟨z.toArray⟩) (by simpa using (Z.ok z hz).1)
   simp only [List.toList_toArray] at this
   simp [stD, this]
  have hif := kA (xs := (zsW rs sg N).map stD) (by simp; omega)
  have hgl : (bX (afW rs sg) (bfW rs sg N) N).length <= 16777216 := by unfold bX; rw [List.length_map, List.length_take]; omega
  have hzl2 : (zsW rs sg N).length <= 16777216 := by omega
  have : wyE (wyρ rs sg most (zsW rs sg N) (bX (afW rs sg) (bfW rs sg N) N) u v w x) = .ok (.rt (.d (qT rs sg N))) := by
   simp [wyE, wyρ, hif, f9, hcw, aC5, hzl2, qT]
  rw [run _ (q.trans this)]
end Mc
namespace Fl
open PySem L2 PyProof.Rows
def sH (i : Nat) (tb : List (Str × Bool)) : Sg -> R PyData := fun ρ => match ρ[i]? with
 | some (some (.x e)) => (match tb.lookup e.c with
  | some b => .ok (.bool b)
  | none => .bad)
 | _ => .bad
def sI (K : Frag) (mg : Str -> Option Value) (cv : Value) (tb : List (Str × Bool)) : Prop := ∀ p ∈ tb, ∃ W C, SX.ExcC K W C /\ mg p.1 = some (.ref C) /\ PySem.W.kitOne K (.ref C) cv = some p.2
def IsA (K : Frag) (mg : Str -> Option Value) (q : Str) (tb : List (Str × Bool)) : Prop := ∃ D, mg q = some (.ref D) /\ sI K mg (.ref D) tb
theorem vX {K : Frag} {mg : Str -> Option Value} {cv : Value} {tb : List (Str × Bool)} {W C : Addr} {nm : Str} {b : Bool} (c : SX.ExcC K W C) (m : mg nm = some (.ref C)) (k : PySem.W.kitOne K (.ref C) cv = some b) (t : sI K mg cv tb) : sI K mg cv ((nm, b) :: tb) := fun p hp => by
 rcases List.mem_cons.mp hp with rfl | h
 · exact ⟨W, C, c, m, k⟩
 · exact t p h
theorem aAJ {K : Frag} {mg : Str -> Option Value} {cv : Value} : sI K mg cv [] := fun p hp => nomatch hp
theorem aAK {K : Frag} {mg : Str -> Option Value} {W C : Addr} {nm q : Str} {b : Bool} (c : SX.ExcC K W C) (m : mg nm = some (.ref C)) (i : Is1 K mg nm q b) : IsA K mg q [(nm, b)] := by
 obtain ⟨D, C2, h1, h2, h3⟩ := i
 rw [m] at h2
 cases h2
 exact ⟨D, h1, vX c m h3 aAJ⟩
theorem aFI {K : Frag} {mg : Str -> Option Value} {tb : List (Str × Bool)} {W C : Addr} {nm : Str} {T : String} {b : Bool} (c : SX.ExcC K W C) (m : mg nm = some (.ref C)) (i : xG K mg nm T b) (t : sI K mg (.type T) tb) : sI K mg (.type T) ((nm, b) :: tb) := by
 obtain ⟨C2, h2, h3⟩ := i
 rw [m] at h2
 cases h2
 exact vX c m h3 t
theorem yF {β : Type} {x : Str} {b : β} : ∀ {tb : List (Str × β)}, tb.lookup x = some b -> (x, b) ∈ tb
 | [], h => by cases h
 | (y, c) :: t, h => by
  rw [List.lookup_cons] at h
  cases q : (x == y) with
  | true => rw [q] at h; cases h; rw [eq_of_beq q]; exact List.mem_cons_self
  | false => rw [q] at h; exact List.mem_cons_of_mem _ (yF h)
section
variable {X : Cx} {c : Ct} {E : XK} {e : Expr}
theorem aDK {i : Nat} {tb : List (Str × Bool)} {v : V} {cv : Value} (hM : X.mg = c.mg) (hv : rN v = some cv) (is : sI X.K X.mg cv tb)
  (h : PE X e (tCB (fun xs H Q => ∃ x c t cv b, xs = [x, c] /\ TyX X.K H x t /\ rN c = some cv /\ PySem.W.kitOne X.K t cv = some b /\ Q (.bl b) H) (gW (jN i) (gW (tC v) lR)))) : PD X c E e (sH i tb) := PE.imp h fun σ H Q ⟨ρ, F, ab, k⟩ => by
 unfold sH at k
 split at k
 ·rename_i er hi
  split at k
  ·rename_i b hb
   obtain ⟨W, C, h1, h2, h3⟩ := is _ (yF hb)
   obtain ⟨a, a1, a2⟩ := aNO hM h1 h2 ab hi rfl
   exact ⟨_, a1, _, _, _, _, b, rfl, a2, hv, h3, Rk.ok k _ F H (Ext.refl ab.fh) (.bl b)⟩
  ·exact k.elim
 ·exact k.elim
theorem aDL {i : Nat} {tb : List (Str × Bool)} {q : Str} (hM : X.mg = c.mg) (is : IsA X.K X.mg q tb)
  (h : ∀ D, X.mg q = some (.ref D) -> PE X e (tCB (fun xs H Q => ∃ x c t cv b, xs = [x, c] /\ TyX X.K H x t /\ rN c = some cv /\ PySem.W.kitOne X.K t cv = some b /\ Q (.bl b) H) (gW (jN i) (gW (tC (.ref D)) lR)))) : PD X c E e (sH i tb) := by
 obtain ⟨D, h1, h2⟩ := is
 exact aDK hM rfl h2 (h D h1)
def UpK (K : Frag) (mg : Str -> Option Value) (cl : List Str) : Prop := ∃ Wc bm, mg "WayError" = some (.ref Wc) /\ SX.ExcAny K Wc bm /\ uM K mg Wc cl
end
end Fl
namespace Mc
open PySem L2 PyProof.Rows Fl
def mR : Sg -> R Fw := (aD (j8 (stT [(stN 3), (stN 4)]) (eV 2))
 (aD (j8 (stT [(stN 5), (stN 6), (stN 7)]) (e2 dIx (rV 0) (rV 4)))
 (aD (sIf (bOr (e1 asB (e2 dEq (rV 3) (eC (.int 0)))) (e1 asB (e2 dGt (rV 3) (e1 dLen (rV 1))))) (aD (bN 8 (vD (e2 dIx (eL (cY (aA (eV 5) (aA (eV 7) aG)))) (e1 dInt (e2 dGt (rV 3) (eC (.int 0)))))))
 (aD (sIf (e1 asB (e1 (dN "str") (rV 8))) (aY (vD (eC .none))) sNx)
 (aY (vD (cG (aA (e2 dIx (eL (cY (aA (eC (.int 1)) (aA (e1 dLen (rV 1)) aG)))) (e1 dInt (e2 dGt (rV 3) (eC (.int 0))))) (aA (eV 8) aG))))))) sNx)
 (aD (j8 (stT [(stN 8), (stN 9)]) (e2 dIx (rV 6) (e2 pK (eC (.str "abc")) (e2 dIx (rV 1) (e2 dSub (rV 3) (eC (.int 1)))))))
 (aY (vD (cG (aA (e2 cN (rV 3) (rV 9)) (aA (eV 8) aG)))))))))
def dQ : List A -> R A := fnF 10 mR
def k6 : Sg -> R Fw := (aD (cR 2 (cY (aA (cG (aA (eC (.int 0)) (aA (eC (.int 0)) aG))) aG)))
 (aD (iZ 3)
 (aD (a9 (e1 asB (gU true 3 (e2 dIx (rV 2) (e1 dNeg (eC (.int 1)))))) (aD (fH 3 (e2 dIx (rV 2) (e1 dNeg (eC (.int 1)))) (eC (.bool true)))
 (aD (bN 4 (aV 3 dQ (aA (vV 0) (aA (vV 1) (aA (vD (e2 dIx (rV 2) (e1 dNeg (eC (.int 1))))) aG)))))
 (aD (sIf (e1 asB (e2 dIs (rV 4) (eC .none))) (sFz 2 (aY (vV 2))) sNx)
 (dB 2 (eV 4))))))
 (sFz 2 (aY (vV 2))))))
def iR : List A -> R A := fnF 5 k6
def mS : Sg -> R Fw := (aD (j8 (stT [(stN 2), (stN 3)]) (e2 dIx (eA (aV 2 iR (aA (vV 0) (aA (vV 1) aG)))) (e1 dNeg (eC (.int 1)))))
 (aD (sIf (e1 asB (e2 dIsnt (eA (aV 3 dQ (aA (vV 0) (aA (vV 1) (aA (vD (cG (aA (eV 2) (aA (eV 3) aG)))) aG))))) (eC .none))) (aY (vD (eC (.str "ever")))) sNx)
 (aY (vD (e2 dIx (eL (cY (aA (e2 dIx (e2 dIx (rV 0) (rV 3)) (eC (.int 0))) (aA (e2 dIx (e2 dIx (rV 0) (rV 3)) (eC (.int 2))) aG)))) (e1 dInt (e2 dGt (rV 2) (eC (.int 0)))))))))
def jX : List A -> R A := fnF 4 mS
def k7 : Sg -> R Fw := (aD (iZ 4)
 (aD (a9 (e1 asB (e2 dLe (rV 2) (e1 dLen (rV 1)))) (aD (sIf (e1 asB (gU false 4 (cG (aA (eV 2) (aA (eV 3) aG))))) (aY (vD (eC (.str "ever")))) sNx)
 (aD (fH 4 (cG (aA (eV 2) (aA (eV 3) aG))) (eC (.bool true)))
 (aD (sIf (gG (e1 asB (e2 dEq (rV 2) (eC (.int 0)))) (e1 asB (e1 (dN "str") (e2 dIx (e2 dIx (rV 0) (rV 3)) (eC (.int 0)))))) (aY (vD (e2 dIx (e2 dIx (rV 0) (rV 3)) (eC (.int 0))))) sNx)
 (j8 (stT [(stN 2), (stN 3)]) (eA (aV 3 dQ (aA (vV 0) (aA (vV 1) (aA (vD (cG (aA (eV 2) (aA (eV 3) aG)))) aG))))))))))
 (aY (vV 3))))
def fU : List A -> R A := fnF 5 k7
def jY : Sg -> R Fw := (aD (cR 2 (fG [none, some 0, some 1] (iH (e1 dLen (rV 0))) (stN 0) gS (eA (aV 4 fU (aA (vV 1) (aA (vV 2) (aA (vD (e1 dLen (rV 2))) (aA (vV 0) aG))))))))
 (aY (vD (cG (aA (eA (aV 4 fU (aA (vV 0) (aA (vV 1) (aA (vD (eC (.int 0))) (aA (vD (eC (.int 0))) aG)))))) (aA (e1 dTup (rV 2)) aG))))))
def eO : List A -> R A := fnF 3 jY
def mT : Sg -> R Fw := (aD (cR 3 (cY (aA (eC (.str "")) aG)))
 (aD (n9 4 (n8 (eA (aV 2 eO (aA (vV 0) (aA (vD (eC (.str ""))) aG)))) (eC (.int 0)) r0))
 (aD (cR 5 (cY aG))
 (aD (a9 (e1 asB (e2 dLt (e1 dLen (rV 5)) (e1 dLen (rV 3)))) (aD (cR 6 (cY aG))
 (aD (jT (e1 bT (eSl dSl (eC (.str "abc")) oNo (oSo (rV 1)))) (stN 7) (aD (bN 8 (vD (e2 cN (e2 dIx (rV 3) (e1 dLen (rV 5))) (rV 7))))
 (aD (bN 9 (aV 2 eO (aA (vV 0) (aA (vV 8) aG))))
 (aD (sIf (e1 asB (gU true 4 (eV 9))) (aD (fH 4 (eV 9) (e1 dLen (rV 3)))
 (dB 3 (eV 8))) sNx)
 (dB 6 (mK 4 (eV 9)))))))
 (aD (dB 5 (e1 dTup (rV 6)))
 (sIf (e1 asB (e2 dGt (e1 dLen (rV 3)) (rV 2))) (aY (vD (eC .none))) sNx)))))
 (sFz 3 (aY (vD (cG (aA (eV 3) (aA (e1 dTup (rV 5)) (aA (e1 dTup (eL (fG [none, some 0] (e1 bT (rV 3)) (stN 0) gS (eA (aV 2 jX (aA (vV 1) (aA (vV 0) aG))))))) aG)))))))))))
def eE : List A -> R A := fnF 10 mT
def jZ : Sg -> R Fw := (aD (bN 1 (vD (eC .none)))
 (aD (xF 2 (some 1) 1 jK (aA (vV 0) aG) ["TooMany"] (aD (bN 1 (vD (eC (.str "else"))))
 (sIf (gG (e1 asB (sH 2 [("TooMany", true)])) (gG (e1 asB (sH 2 [("TooMany", true)])) (gR (e1 asB (sH 2 [("TooMany", false)]))))) (bN 1 (vD (eC (.str "many")))) sNx)))
 (aY (vV 1))))
def cJ : List A -> R A := fnF 3 jZ
def iS : Sg -> R Fw := (aD (jT (e1 bT (eV 0)) (stN 1) (aD (sIf (gR (e1 asB (e1 (dN "tuple") (rV 1)))) (aY (vD (eC (.bool false)))) sNx)
 (jT (e1 bT (eV 1)) (stN 2) (sIf (bOr (gR (e1 asB (e1 (dN "int") (rV 2)))) (e1 asB (e1 (dN "bool") (rV 2)))) (aY (vD (eC (.bool false)))) sNx))))
 (aY (vD (eC (.bool true)))))
def dR : List A -> R A := fnF 3 iS
def aBP : Sg -> R Fw := (aD (bN 1 (vD (e2 cN (eC (.int 1)) (e2 dMod (eA (aV 2 bP (aA (vV 0) (aA (vD (eC (.int 0))) aG)))) (eC (.int 3))))))
 (aD (bN 2 (vD (e2 cN (eC (.int 1)) (e2 dMod (eA (aV 2 bP (aA (vV 0) (aA (vD (eC (.int 1))) aG)))) (eC (.int 3))))))
 (aD (sIf (gG (e1 asB (e2 dEq (rV 1) (eC (.int 3)))) (e1 asB (e2 dEq (rV 2) (eC (.int 3))))) (bN 2 (vD (e2 dSub (eC (.int 2)) (e2 dMod (eA (aV 2 bP (aA (vV 0) (aA (vD (eC (.int 2))) aG)))) (eC (.int 2)))))) sNx)
 (aD (bN 3 (aV 4 eS (aA (vV 0) (aA (vD (eC (.int 3))) (aA (vV 1) (aA (vV 2) aG))))))
 (aD (bN 4 (aV 3 eE (aA (vV 3) (aA (vV 2) (aA (vD (eC (.int 200))) aG)))))
 (aD (bN 5 (aV 1 cJ (aA (vV 3) aG)))
 (aD (sIf (e1 asB (e2 dIs (rV 4) (eC .none))) (aY (vD (aA7 (e2 dEq (rV 5) (eC (.str "many"))) (e2 dEq (eA (aV 1 cJ (aA (vV 3) aG))) (eC (.str "many")))))) sNx)
 (aD (sIf (bOr (e1 asB (e2 dNe (rV 5) (cG (aA (e2 dIx (rV 4) (eC (.int 1))) (aA (e2 dIx (rV 4) (eC (.int 2))) aG))))) (bOr (gR (e1 asB (e1 (dN "tuple") (rV 5)))) (gR (e1 asB (eA (aV 1 dR (aA (vD (e2 dIx (rV 5) (eC (.int 0)))) aG))))))) (aY (vD (eC (.bool false)))) sNx)
 (aY (vD (e2 dEq (eA (aV 1 cJ (aA (vV 3) aG))) (rV 5))))))))))))
def aBQ : List A -> R A := fnF 6 aBP
end Mc
namespace Mc
open PySem L2 PyProof.Rows Fl
def top (i : Nat) : Stmt := PySem.Challenge.pw_striproam_k21_rooms_as_first_reached.main.body.getD i (.Pass ⟨0, 0, 0, 0⟩)
def dF : ClSt := clS "one_way.<locals>.after" ((c7 (top 16)).getD 1 (.Pass ⟨0, 0, 0, 0⟩))
def fN : Pos := aNQ ((c7 (top 16)).getD 1 (.Pass ⟨0, 0, 0, 0⟩))
def fO : ClSt := clE "one_way.<locals>.<lambda>" (aKI (aKH ((c7 (top 16)).getD 2 (.Pass ⟨0, 0, 0, 0⟩))) 2)
def fV : Pos := aNR (aKI (aKH ((c7 (top 16)).getD 2 (.Pass ⟨0, 0, 0, 0⟩))) 2)
def qsT : List (Pos × Str) := [(fN, ("one_way.<locals>.after" : Str)), (fV, ("one_way.<locals>.<lambda>" : Str))]
structure Txt (w : World) (K : Frag) (mg : Str -> Option Value) : Prop where
 b_ValueError : mg "ValueError" = none
 b_bool : mg "bool" = none
 b_int : mg "int" = none
 b_isinstance : mg "isinstance" = none
 b_len : mg "len" = none
 b_range : mg "range" = none
 b_str : mg "str" = none
 b_tuple : mg "tuple" = none
 g_MOST_BEGINNINGS : ∃ t, mg "MOST_BEGINNINGS" = some (.int 200 t)
section
variable {P : Program} {w : World} {K : Frag} {mg : Str -> Option Value} {base : Heap} {TH : Hp}
theorem rG : FnScope ["machine"] ["machine"] (aL (top 5)) := by constructor <;> first | rfl | decide +kernel
theorem yV (T : Txt w K mg) (D : DefAt K mg "signs_of" (top 5) ["machine"]) : a6 P w K mg base TH 1 "signs_of" ["machine"] iJ :=
 @c8 P w K mg base TH "signs_of" (top 5) ["machine"] ["machine"] 0 oD D rG (fun f cdv A outer s H F E hr => by
  have nd := rG.nd
  exact (Fl.aN (Fl.bJ (aT (cZ rfl (bD b7 rfl T.b_len PySem.boot_len (aI (aB (bB (bC rfl) aR (aB (bB (bC rfl) aR (aC (pv 0)) (aB aF))) (aB aF))) aS)))))))
theorem rH : FnScope ["machine", "number"] ["machine", "number"] (aL (top 6)) := by constructor <;> first | rfl | decide +kernel
theorem yW (T : Txt w K mg) (D : DefAt K mg "cells_of" (top 6) ["machine", "number"]) : a6 P w K mg base TH 1 "cells_of" ["machine", "number"] iK :=
 @c8 P w K mg base TH "cells_of" (top 6) ["machine", "number"] ["machine", "number"] 0 oE D rH (fun f cdv A outer s H F E hr => by
  have nd := rH.nd
  exact (Fl.aN (Fl.bJ (aT (gN (jI (jF (N := ["row", "number"]) (js := [none, some 1]) rfl (.own (.cap rfl (.inl rfl) (.inl rfl) .nil)) (by rfl) (rW rfl (aC (pv 0)))) (by decide) (by decide) (is := [0]) (fun cl C s0 H0 fp => ⟨_, (bQ (i := 0) (show (["row", "number"] : List Str).Nodup by decide +kernel) rfl (Or.inl rfl)), (bR 0), Fl.fE, (bB (bC rfl) aR (aB (bB (bC rfl) aR (aC (pv 0)) (aB aF))) (aC (pv 1)))⟩)))))))
theorem tZ : FnScope ["begin", "after", "done", "found", "numbers", "rows", "row", "thing"] ["begin", "after", "done"] (aL (top 8)) := by constructor <;> first | rfl | decide +kernel
theorem aBR (T : Txt w K mg) (D : DefAt K mg "reached" (top 8) ["begin", "after", "done"]) : a6 P w K mg base TH 13 "reached" ["begin", "after", "done"] jJ :=
 @c8 P w K mg base TH "reached" (top 8) ["begin", "after", "done", "found", "numbers", "rows", "row", "thing"] ["begin", "after", "done"] 12 pO D tZ (fun f cdv A outer s H F E hr => by
  have nd := tZ.nd
  exact (Fl.aE (eQ (L2.aJ (i := 3) nd rfl (Or.inl rfl) (eJ (aM (bK (pv 0)) bF))))
   (Fl.aE (zQ rfl rfl (L2.aJ (i := 4) nd rfl (Or.inl rfl) (zO hr.units (xE (bK (pv 0)) aF zP))))
   (Fl.aE (eQ (L2.aJ (i := 5) nd rfl (Or.inl rfl) (eJ bF)))
   (Fl.aE (Fl.dW (L2.dW (eP ⟨rfl, rfl⟩) (PW.pt (Fl.iT (Fl.cT w6 rT (aB (cZ rfl (bD b7 rfl T.b_len PySem.boot_len (aI (aC (pv 5)) aS)))) (aB (cZ rfl (bD b7 rfl T.b_len PySem.boot_len (aI (aC (pv 3)) aS)))) (b8 _)) (Fl.jC (Fl.iU (Fl.d3 (aHF (m := 12) rfl rfl rfl (hr.mono (by decide)) (xI (pv 2) (cI fun _ _ _ h => h) (xK (aC (pv 3)) (xK (aB (cZ rfl (bD b7 rfl T.b_len PySem.boot_len (aI (aC (pv 5)) aS)))) aHE)))))))))
   (Fl.aE (eQ (L2.aJ (i := 6) nd rfl (Or.inl rfl) (eJ bF)))
   (Fl.aE (Fl.eW (bR 7) (L2.eW (eP ⟨rfl, rfl⟩) rfl (aA9 rfl (aKB (m := 12) rfl rfl rfl (hr.mono (by decide)) (xI (pv 1) (cI fun _ _ _ h => h) (aM (bB (bC rfl) aR (aC (pv 3)) (aB (cZ rfl (bD b7 rfl T.b_len PySem.boot_len (aI (aC (pv 5)) aS))))) bF)))) (bQ (i := 7) nd rfl (Or.inl rfl))
   (Fl.aE (Fl.dA (nC rfl rfl (j1 (rZ hr.units) (bK (pv 7)) (pv 4) (by with_unfolding_all rfl))) (Fl.aE (Fl.lL rfl rfl (g6 (cZ rfl (bD b7 rfl T.b_len PySem.boot_len (aI (aC (pv 3)) aS))) (m4 (pv 4) (bK (pv 7)) (j7 hr.units))))
   (Fl.aN (hR rfl (L2.fD (iY PySem.F.plainAttrs_list PySem.F.slot_list_append PySem.F.type_list_append d4 (pv 3) (aI (bK (pv 7)) aS)))))) Fl.cD)
   (Fl.aN (hR rfl (L2.fD (iY PySem.F.plainAttrs_list PySem.F.slot_list_append PySem.F.type_list_append d4 (pv 6) (aI (zN rfl rfl (zM hr.units (pv 4) (bK (pv 7)) (fun _ _ => rfl))) aS))))))))
   (Fl.aN (hR rfl (L2.fD (iY PySem.F.plainAttrs_list PySem.F.slot_list_append PySem.F.type_list_append d4 (pv 5) (aI (eF rfl (cU cF rfl T.b_tuple PyProof.Rows.boot_tuple (aI (aC (pv 6)) aS))) aS)))))))))
   (Fl.aN (qH 5 (qH 3 (Fl.bJ (aT (dP (aM (bK (pv 3)) (aM (bK (pv 5)) bF)))))))))))))
theorem t4 : FnScope ["part"] ["part"] (aL (top 11)) := by constructor <;> first | rfl | decide +kernel
theorem aBS (T : Txt w K mg) (D : DefAt K mg "is_word" (top 11) ["part"]) : a6 P w K mg base TH 1 "is_word" ["part"] dJ :=
 @c8 P w K mg base TH "is_word" (top 11) ["part"] ["part"] 0 mL D t4 (fun f cdv A outer s H F E hr => by
  have nd := t4.nd
  exact (Fl.aN (Fl.bJ (aT (kS (bD (hU rfl (qJ _)) rfl T.b_isinstance PyProof.Rows.boot_isinstance (aI (aC (pv 0)) (aI (iD (v := .ty "str") rfl T.b_str PyProof.Rows.boot_str rfl) aS))))))))
theorem mB : FnScope ["machine", "lefts"] ["machine"] (aL (top 12)) := by constructor <;> first | rfl | decide +kernel
theorem sJ (T : Txt w K mg) (D : DefAt K mg "without_signs" (top 12) ["machine"]) : a6 P w K mg base TH 1 "without_signs" ["machine"] fJ :=
 @c8 P w K mg base TH "without_signs" (top 12) ["machine", "lefts"] ["machine"] 0 jV D mB (fun f cdv A outer s H F E hr => by
  have nd := mB.nd
  exact (Fl.aE (Fl.aJ (L2.aJ (i := 1) nd rfl (Or.inl rfl) (aT (eF rfl (cU cF rfl T.b_tuple PyProof.Rows.boot_tuple (aI (aB (gN (jI (jF (N := ["row"]) (js := [none]) rfl (.own .nil) (by rfl) (rW rfl (aC (pv 0)))) (by decide) (by decide) (is := [0]) (fun cl C s0 H0 fp => ⟨_, (bQ (i := 0) (show (["row"] : List Str).Nodup by decide +kernel) rfl (Or.inl rfl)), (bR 0), Fl.fE, (bB (bC rfl) aR (aC (pv 0)) (aB aF))⟩)))) aS))))))
   (Fl.aN (Fl.bJ (aT (dP (aM (bB (bC rfl) aR (aC (pv 1)) (aB aF)) (aM (bK (pv 1)) bF))))))))
theorem t5 : FnScope ["backs", "cells", "room", "been", "cell"] ["backs", "cells", "room"] (aL (top 13)) := by constructor <;> first | rfl | decide +kernel
theorem aBT (T : Txt w K mg) (D : DefAt K mg "gone_on" (top 13) ["backs", "cells", "room"]) (c_is_word : a6 P w K mg base TH 1 "is_word" ["part"] dJ) : a6 P w K mg base TH 2 "gone_on" ["backs", "cells", "room"] hV :=
 @c8 P w K mg base TH "gone_on" (top 13) ["backs", "cells", "room", "been", "cell"] ["backs", "cells", "room"] 1 pP D t5 (fun f cdv A outer s H F E hr => by
  have nd := t5.nd
  exact (Fl.aE (qL rfl (L2.aJ (i := 3) nd rfl (Or.inl rfl) qK))
   (Fl.aE (Fl.dW (L2.dW (eP ⟨rfl, rfl⟩) (Fl.iU (Fl.d3 (cX (cC rfl rfl rfl (b9 c_is_word (hr.mono (by decide)) rfl (cI fun _ _ _ h => h) (aH (aW (pv 2)) bG))))))
   (Fl.aE (Fl.dA (nC rfl rfl (j1 (uK hr.units) (bK (pv 2)) (pv 3) (by with_unfolding_all rfl))) (Fl.aN (Fl.bJ (aT eI))) Fl.cD)
   (Fl.aE (Fl.lL rfl rfl (g6 mH (m4 (pv 3) (bK (pv 2)) (j7 hr.units))))
   (Fl.aE (Fl.aJ (L2.aJ (i := 4) nd rfl (Or.inl rfl) (aT (bB (bC rfl) aR (aC (pv 1)) (aC (pv 2))))))
   (Fl.aE (Fl.dA (Fl.cT (hJ rfl hr.units) eY (aB (bB (bC rfl) aR (aC (pv 4)) (aB aF))) (aB aF) (b8 _)) (Fl.aN (Fl.bJ (aT (bB (bC rfl) aR (aC (pv 4)) (aB aF))))) Fl.cD)
   (Fl.aN (Fl.aJ (L2.aJ (i := 2) nd rfl (Or.inl rfl) (aT (bB (bC rfl) aR (aC (pv 0)) (aB (bB (bC rfl) aR (aC (pv 4)) (aB aF))))))))))))))
   (Fl.aN (Fl.bJ (aW (pv 2)))))))
end
end Mc
namespace Mc
open PySem L2 PyProof.Rows Fl
section
variable {P : Program} {w : World} {K : Frag} {mg : Str -> Option Value} {base : Heap} {TH : Hp}
theorem vY : FnScope ["begun", "cells", "first", "backs"] ["begun", "cells"] (aL (top 14)) := by constructor <;> first | rfl | decide +kernel
theorem aDM (T : Txt w K mg) (D : DefAt K mg "longer" (top 14) ["begun", "cells"]) (c_gone_on : a6 P w K mg base TH 2 "gone_on" ["backs", "cells", "room"] hV) : a6 P w K mg base TH 3 "longer" ["begun", "cells"] gH :=
 @c8 P w K mg base TH "longer" (top 14) ["begun", "cells", "first", "backs"] ["begun", "cells"] 2 r9 D vY (fun f cdv A outer s H F E hr => by
  have nd := vY.nd
  exact (Fl.aE (Fl.aJ (L2.aJ (i := 2) nd rfl (Or.inl rfl) (cC rfl rfl rfl (b9 c_gone_on (hr.mono (by decide)) rfl (cI fun _ _ _ h => h) (aH (aT (bB (bC rfl) aR (aC (pv 0)) (aB aF))) (aH (aW (pv 1)) (aH (aT (bB (bC rfl) aR (aC (pv 0)) (aB aF))) bG)))))))
   (Fl.aE (Fl.aJ (L2.aJ (i := 3) nd rfl (Or.inl rfl) (aT (eF rfl (cU cF rfl T.b_tuple PyProof.Rows.boot_tuple (aI (aB (gN (jI (jF (N := ["room", "begun", "cells"]) (js := [none, some 0, some 1]) rfl (.own (.cap rfl (.inl rfl) (.inl rfl) (.cap rfl (.inl rfl) (.inl rfl) .nil))) (by rfl) (aA8 (lK (jD rfl T.b_range (aI (aB (cZ rfl (bD b7 rfl T.b_len PySem.boot_len (aI (aC (pv 1)) aS)))) aS))))) (by decide) (by decide) (is := [0]) (fun cl C s0 H0 fp => ⟨_, (bQ (i := 0) (show (["room", "begun", "cells"] : List Str).Nodup by decide +kernel) rfl (Or.inl rfl)), (bR 0), Fl.fE, (cX (cC rfl rfl rfl (b9 c_gone_on (hr.mono (by decide)) rfl p9 (aH (aT (bB (bC rfl) aR (aC (pv 1)) (aB aF))) (aH (aW (pv 2)) (aH (aW (pv 0)) bG))))))⟩)))) aS))))))
   (Fl.aN (Fl.bJ (aT (dP (aM (bK (pv 2)) (aM (bK (pv 3)) bF)))))))))
theorem nO : FnScope ["machine", "begun", "room", "been", "turn"] ["machine", "begun"] (aL (top 15)) := by constructor <;> first | rfl | decide +kernel
theorem uV (T : Txt w K mg) (D : DefAt K mg "word_behind" (top 15) ["machine", "begun"]) (c_is_word : a6 P w K mg base TH 1 "is_word" ["part"] dJ) : a6 P w K mg base TH 2 "word_behind" ["machine", "begun"] eG :=
 @c8 P w K mg base TH "word_behind" (top 15) ["machine", "begun", "room", "been", "turn"] ["machine", "begun"] 1 kX D nO (fun f cdv A outer s H F E hr => by
  have nd := nO.nd
  exact (Fl.aE (Fl.aJ (L2.aJ (i := 2) nd rfl (Or.inl rfl) (aT (bB (bC rfl) aR (aC (pv 1)) (aB aF)))))
   (Fl.aE (qL rfl (L2.aJ (i := 3) nd rfl (Or.inl rfl) qK))
   (Fl.aE (Fl.dW (L2.dW (eP ⟨rfl, rfl⟩) (Fl.iU (Fl.d3 (cX (cC rfl rfl rfl (b9 c_is_word (hr.mono (by decide)) rfl (cI fun _ _ _ h => h) (aH (aW (pv 2)) bG))))))
   (Fl.aE (Fl.dA (nC rfl rfl (j1 (uK hr.units) (bK (pv 2)) (pv 3) (by with_unfolding_all rfl))) (Fl.aN (Fl.bJ (aT eI))) Fl.cD)
   (Fl.aE (Fl.lL rfl rfl (g6 mH (m4 (pv 3) (bK (pv 2)) (j7 hr.units))))
   (Fl.aE (Fl.aJ (L2.aJ (i := 4) nd rfl (Or.inl rfl) (aT (bB (bC rfl) aR (aB (bB (bC rfl) aR (aC (pv 0)) (aC (pv 2)))) (aB aF)))))
   (Fl.aN (Fl.aJ (L2.aJ (i := 2) nd rfl (Or.inl rfl) (aT (aFY (Fl.d3 (cX (cC rfl rfl rfl (b9 c_is_word (hr.mono (by decide)) rfl (cI fun _ _ _ h => h) (aH (aW (pv 4)) bG))))) (bK (pv 4)) (bB (bC rfl) aR (aB (bB (bC rfl) aR (aC (pv 1)) (aB aF))) (aC (pv 4)))))))))))))
   (Fl.aN (Fl.bJ (aW (pv 2))))))))
theorem fW : CloScope ["begun", "columns"] ["begun"] ["columns"] dF.scope := ⟨rfl, rfl, rfl, by decide +kernel, rfl, by decide +kernel, by decide +kernel, by decide +kernel, by decide +kernel⟩
theorem qV : ∀ y ∈ dF.scope.names, y.2 = .free -> (aL (top 16)).names.lookup y.1 = some .cell \/ (aL (top 16)).names.lookup y.1 = some .free := by decide +kernel
theorem pU : (fN, ("one_way.<locals>.after" : Str)) ∈ qsT := (.head _)
theorem qX : ∀ p ∈ qsT, p.1.line = fN.line -> p.1.col = fN.col -> p.2 = ("one_way.<locals>.after" : Str) := by decide +kernel
theorem pV (T : Txt w K mg) (c_longer : a6 P w K mg base TH 3 "longer" ["begun", "cells"] gH) : CloOk P w K mg base TH dF ["columns"] 4 1 (jU 2 dC) :=
 @aKD P w K mg base TH dF ["begun", "columns"] ["begun"] ["columns"] 3 _ dC rfl fW (fun _ _ _ _ _ us hl => match us, hl with | [_], _ => rfl) (fun f cc cl A outer s H F E E' hr => by
  have nd := fW.nd
  exact (Fl.aN (Fl.bJ (aT (gN (jI (jF (N := ["cells", "begun"]) (js := [none, some 0]) rfl (.own (.cap rfl (.inl rfl) (.inl rfl) .nil)) (by rfl) (rW rfl (aC (pv 1)))) (by decide) (by decide) (is := [0]) (fun cl C s0 H0 fp => ⟨_, (bQ (i := 0) (show (["cells", "begun"] : List Str).Nodup by decide +kernel) rfl (Or.inl rfl)), (bR 0), Fl.fE, (cX (cC rfl rfl rfl (b9 c_longer (hr.mono (by decide)) rfl p9 (aH (aW (pv 1)) (aH (aW (pv 0)) bG)))))⟩)))))))
theorem gL : CloScope ["found", "at"] ["found", "at"] [] fO.scope := ⟨rfl, rfl, rfl, by decide +kernel, rfl, by decide +kernel, by decide +kernel, by decide +kernel, by decide +kernel⟩
theorem sK : ∀ y ∈ fO.scope.names, y.2 = .free -> (aL (top 16)).names.lookup y.1 = some .cell \/ (aL (top 16)).names.lookup y.1 = some .free := by decide +kernel
theorem qY : (fV, ("one_way.<locals>.<lambda>" : Str)) ∈ qsT := (.tail _ (.head _))
theorem sL : ∀ p ∈ qsT, p.1.line = fV.line -> p.1.col = fV.col -> p.2 = ("one_way.<locals>.<lambda>" : Str) := by decide +kernel
theorem qZ (T : Txt w K mg) : CloOk P w K mg base TH fO [] 1 2 (jU 2 eD) :=
 @aKE P w K mg base TH fO ["found", "at"] ["found", "at"] [] 0 _ (e2 dGt (e1 dLen (rV 0)) (eC (.int 200))) rfl gL (fun _ _ _ _ _ us hl => match us, hl with | [_, _], _ => rfl) (fun f cc cl A outer s H F E E' hr => by
  have nd := gL.nd
  exact (lV jR gF (aB (cZ rfl (bD b7 rfl T.b_len PySem.boot_len (aI (aC (pv 0)) aS)))) (aB (i5 (mZ (v := .int 200) rfl T.g_MOST_BEGINNINGS.choose_spec ⟨_, rfl⟩) fun _ => .int _)) (b8 _)))
theorem t6 : FnScope ["machine", "columns", "after", "search", "found"] ["machine"] (aL (top 16)) := by constructor <;> first | rfl | decide +kernel
theorem aBU (T : Txt w K mg) (D : DefAtT K mg base TH qsT "one_way" (top 16) ["machine"]) (c_signs_of : a6 P w K mg base TH 1 "signs_of" ["machine"] iJ) (c_cells_of : a6 P w K mg base TH 1 "cells_of" ["machine", "number"] iK) (c_longer : a6 P w K mg base TH 3 "longer" ["begun", "cells"] gH) (c_reached : a6 P w K mg base TH 13 "reached" ["begin", "after", "done"] jJ) (c_without_signs : a6 P w K mg base TH 1 "without_signs" ["machine"] fJ) (c_word_behind : a6 P w K mg base TH 2 "word_behind" ["machine", "begun"] eG) {Wp_TooMany Cp_TooMany : Addr} (erp_TooMany : ErrP K mg "TooMany" Wp_TooMany Cp_TooMany) : a6 P w K mg base TH 14 "one_way" ["machine"] jK :=
 @aHN P w K mg base TH "one_way" (top 16) ["machine", "columns", "after", "search", "found"] ["machine"] 13 qsT (fun q => [(("one_way.<locals>.after" : Str), dF)].lookup q) mM D t6 (fun f c0 P0 A outer s H F E hTb hTP hr => by
  have nd := t6.nd
  exact (Fl.aE (eQ (L2.aJ (i := 1) nd rfl (Or.inr rfl) (jI (jF (N := ["number", "machine"]) (js := [none, some 0]) rfl (.own (.cap rfl (.inl rfl) (.inl rfl) .nil)) (by rfl) (aA8 (lK (jD rfl T.b_range (aI (aB (cX (cC rfl rfl rfl (b9 c_signs_of (hr.mono (by decide)) rfl (cI fun _ _ _ h => h) (aH (aW (pv 0)) bG))))) aS))))) (by decide) (by decide) (is := [0]) (fun cl C s0 H0 fp => ⟨_, (bQ (i := 0) (show (["number", "machine"] : List Str).Nodup by decide +kernel) rfl (Or.inl rfl)), (bR 0), Fl.fE, (cX (cC rfl rfl rfl (b9 c_cells_of (hr.mono (by decide)) rfl p9 (aH (aW (pv 1)) (aH (aW (pv 0)) bG)))))⟩))))
   (Fl.aE (aHJ (S := dF) rfl rfl hTP (L2.aJK rfl hTb rfl pU qX qV rfl rfl rfl nd rfl (Or.inl rfl)))
   (Fl.aE (qH 1 (Fl.aJ (L2.aJ (i := 3) nd rfl (Or.inl rfl) (aKG (js := [1]) rfl rfl rfl rfl rfl rfl rfl (aHO ⟨_, rfl, rfl, rfl⟩ aKJ) (L2.aJM c_reached (hr.mono (by decide)) rfl (cI fun _ _ _ h => h) (r6 (aME (cC rfl rfl rfl (b9 c_without_signs (hr.mono (by decide)) rfl (cI fun _ _ _ h => h) (aH (aW (pv 0)) bG)))) (r6 (aHK (S := dF) rfl (pV T c_longer) (fun y hy => fW.only (y, .free) hy rfl) (fun y hy => PySem.mem_of_lookup (fW.cap y hy)) rfl (by decide) (pv 2)) (r6 (aKF (S := fO) rfl hTP (qZ T ) (fun y hy => gL.only (y, .free) hy rfl) (fun y hy => PySem.mem_of_lookup (gL.cap y hy)) rfl (by decide) (L2.aJL rfl hTb rfl qY sL sK rfl)) aHL))))))))
   (Fl.aE (Fl.aJ (L2.aJ (i := 4) nd rfl (Or.inl rfl) (aT (bB (bC rfl) aR (aC (pv 3)) (aB aF)))))
   (Fl.aE (Fl.dA (Fl.cT jR gF (aB (cZ rfl (bD b7 rfl T.b_len PySem.boot_len (aI (aC (pv 4)) aS)))) (aB (i5 (mZ (v := .int 200) rfl T.g_MOST_BEGINNINGS.choose_spec ⟨_, rfl⟩) fun _ => .int _)) (b8 _)) (Fl.aN (aC3 erp_TooMany.m (L2.vM rfl erp_TooMany rfl (aI (aJ9 (aB (i5 (mZ (v := .int 200) rfl T.g_MOST_BEGINNINGS.choose_spec ⟨_, rfl⟩) fun _ => .int _))) aS)))) Fl.cD)
   (Fl.aN (Fl.bJ (aT (dP (aM (eF rfl (cU cF rfl T.b_tuple PyProof.Rows.boot_tuple (aI (aB (bB (bC rfl) aR (aC (pv 3)) (aB aF))) aS))) (aM (eF rfl (cU cF rfl T.b_tuple PyProof.Rows.boot_tuple (aI (aB (gN (jI (jF (N := ["begun", "machine"]) (js := [none, some 0]) rfl (.own (.cap rfl (.inl rfl) (.inl rfl) .nil)) (by rfl) (rW rfl (aC (pv 4)))) (by decide) (by decide) (is := [0]) (fun cl C s0 H0 fp => ⟨_, (bQ (i := 0) (show (["begun", "machine"] : List Str).Nodup by decide +kernel) rfl (Or.inl rfl)), (bR 0), Fl.fE, (cX (cC rfl rfl rfl (b9 c_word_behind (hr.mono (by decide)) rfl p9 (aH (aW (pv 1)) (aH (aW (pv 0)) bG)))))⟩)))) aS))) bF))))))))))))
theorem pW : FnScope ["_law_script", "_law_k", "_law_cell_here", "_law_mixed"] ["_law_script", "_law_k"] (aL (top 18)) := by constructor <;> first | rfl | decide +kernel
theorem yG (T : Txt w K mg) (D : DefAt K mg "_law_cell" (top 18) ["_law_script", "_law_k"]) : a6 P w K mg base TH 1 "_law_cell" ["_law_script", "_law_k"] bP :=
 @c8 P w K mg base TH "_law_cell" (top 18) ["_law_script", "_law_k", "_law_cell_here", "_law_mixed"] ["_law_script", "_law_k"] 0 kM D pW (fun f cdv A outer s H F E hr => by
  have nd := pW.nd
  exact (Fl.aE (Fl.aJ (L2.aJ (i := 2) nd rfl (Or.inl rfl) (aT aF)))
   (Fl.aE (Fl.dA (Fl.cT jR gF (aB (cZ rfl (bD b7 rfl T.b_len PySem.boot_len (aI (aC (pv 0)) aS)))) (aB aF) (b8 _)) (Fl.aN (Fl.aJ (L2.aJ (i := 2) nd rfl (Or.inl rfl) (aT (bB (bC rfl) aR (aC (pv 0)) (aB (aU cP bS (aC (pv 1)) (aB (cZ rfl (bD b7 rfl T.b_len PySem.boot_len (aI (aC (pv 0)) aS))))))))))) Fl.cD)
   (Fl.aE (Fl.aJ (L2.aJ (i := 3) nd rfl (Or.inl rfl) (aT (aU cP bS (aB (aU iG fF (aB (aU (dI rfl) cK (aB (aU (dI rfl) cK (aB (aU cP bS (aC (pv 2)) (aB aF))) (aB (aU iG fF (aB aF) (aC (pv 1)))))) (aB aF))) (aB aF))) (aB aF)))))
   (Fl.aN (Fl.bJ (aT (aU (dI rfl) cK (aB (aU iG fF (aB (aU f8 d8 (aC (pv 2)) (aB aF))) (aB aF))) (aB (aU cP bS (aB (aU (dI rfl) cK (aB (aU iG fF (aC (pv 3)) (aB aF))) (aB (aU iG fF (aB aF) (aC (pv 1)))))) (aB aF)))))))))))
theorem rJ : FnScope ["_law_number", "_law_rooms"] ["_law_number", "_law_rooms"] (aL (top 19)) := by constructor <;> first | rfl | decide +kernel
theorem yX (T : Txt w K mg) (D : DefAt K mg "_law_end" (top 19) ["_law_number", "_law_rooms"]) : a6 P w K mg base TH 1 "_law_end" ["_law_number", "_law_rooms"] fM :=
 @c8 P w K mg base TH "_law_end" (top 19) ["_law_number", "_law_rooms"] ["_law_number", "_law_rooms"] 0 lG D rJ (fun f cdv A outer s H F E hr => by
  have nd := rJ.nd
  exact (Fl.aE (Fl.dA (Fl.cT (hJ rfl hr.units) eY (aB (aU cP bS (aC (pv 0)) (aB aF))) (aB aF) (b8 _)) (Fl.aN (Fl.bJ (aT (bB (bC rfl) aR (aB (gN (eJ (aM eI (aM eI bF))))) (aB (aU cP bS (aB (aU f8 d8 (aC (pv 0)) (aB aF))) (aB aF))))))) Fl.cD)
   (Fl.aN (Fl.bJ (aT (aU cP bS (aB (aU f8 d8 (aC (pv 0)) (aB aF))) (aC (pv 1))))))))
theorem k8 : FnScope ["_law_number", "_law_rooms", "_law_signs", "_law_left", "_law_cells", "_law_k", "_law_ends"] ["_law_number", "_law_rooms", "_law_signs"] (aL (top 20)) := by constructor <;> first | rfl | decide +kernel
theorem q9 (T : Txt w K mg) (D : DefAt K mg "_law_digit_row" (top 20) ["_law_number", "_law_rooms", "_law_signs"]) : a6 P w K mg base TH 1 "_law_digit_row" ["_law_number", "_law_rooms", "_law_signs"] d0 :=
 @c8 P w K mg base TH "_law_digit_row" (top 20) ["_law_number", "_law_rooms", "_law_signs", "_law_left", "_law_cells", "_law_k", "_law_ends"] ["_law_number", "_law_rooms", "_law_signs"] 0 i9 D k8 (fun f cdv A outer s H F E hr => by
  have nd := k8.nd
  exact (Fl.aE (Fl.aJ (L2.aJ (i := 3) nd rfl (Or.inl rfl) (aT (aU cP bS (aC (pv 0)) (aB (aU (dI rfl) cK (aC (pv 1)) (aB aF)))))))
   (Fl.aE (Fl.aJ (L2.aJ (i := 0) nd rfl (Or.inl rfl) (aT (aU f8 d8 (aC (pv 0)) (aB (aU (dI rfl) cK (aC (pv 1)) (aB aF)))))))
   (Fl.aE (eQ (L2.aJ (i := 4) nd rfl (Or.inl rfl) (eJ bF)))
   (Fl.aE (Fl.eW (bR 5) (L2.eW (eP ⟨rfl, rfl⟩) rfl (lK (jD rfl T.b_range (aI (aC (pv 2)) aS))) (bQ (i := 5) nd rfl (Or.inl rfl))
   (Fl.aE (hR rfl (L2.fD (iY PySem.F.plainAttrs_list PySem.F.slot_list_append PySem.F.type_list_append d4 (pv 4) (aI (dP (aM (aU cP bS (aB (aU f8 d8 (aC (pv 0)) (aB aF))) (aC (pv 1))) (aM (aU nA kR (aB aF) (aB (aU iG fF (aB (aU cP bS (aC (pv 0)) (aB aF))) (aB aF)))) bF))) aS))))
   (Fl.aN (Fl.aJ (L2.aJ (i := 0) nd rfl (Or.inl rfl) (aT (aU f8 d8 (aC (pv 0)) (aB (aU iG fF (aB aF) (aC (pv 1))))))))))))
   (Fl.aE (eQ (L2.aJ (i := 6) nd rfl (Or.inl rfl) (eJ (aM (bK (pv 3)) (aM (aU cP bS (aC (pv 0)) (aB (aU (dI rfl) cK (aC (pv 1)) (aB aF)))) bF)))))
   (Fl.aE (zJ (L2.sT (i := 6) nd rfl (Or.inl rfl) (by rfl) (N := ["_law_end_here", "_law_rooms"]) (js := [none, some 1]) rfl (.own (.cap rfl (.inl rfl) (.inl rfl) .nil)) (by rfl) (rW rfl (aC (pv 6)))) (by decide) (by decide) (is := [0]) (fun cl C s0 H0 fp => ⟨_, (bQ (i := 0) (show (["_law_end_here", "_law_rooms"] : List Str).Nodup by decide +kernel) rfl (Or.inl rfl)), (bR 0), Fl.fE, (aFY (Fl.cT aJS aEH (aC (pv 0)) (aC (pv 1)) (b8 _)) (bB (bC rfl) aR (aB (gN (eJ (aM eI (aM eI bF))))) (aB (aU nA kR (aC (pv 0)) (aC (pv 1))))) (bK (pv 0)))⟩))
   (Fl.aN (Fl.bJ (aT (dP (aM (bB (bC rfl) aR (aC (pv 6)) (aB aF)) (aM (eF rfl (cU cF rfl T.b_tuple PyProof.Rows.boot_tuple (aI (aC (pv 4)) aS))) (aM (bB (bC rfl) aR (aC (pv 6)) (aB aF)) bF))))))))))))))
end
end Mc
namespace Mc
open PySem L2 PyProof.Rows Fl
section
variable {P : Program} {w : World} {K : Frag} {mg : Str -> Option Value} {base : Heap} {TH : Hp}
theorem k9 : FnScope ["_law_number", "_law_rooms", "_law_signs", "_law_pieces", "_law_k", "_law_cells"] ["_law_number", "_law_rooms", "_law_signs"] (aL (top 21)) := by constructor <;> first | rfl | decide +kernel
theorem rA (T : Txt w K mg) (D : DefAt K mg "_law_mixed_row" (top 21) ["_law_number", "_law_rooms", "_law_signs"]) (c__law_end : a6 P w K mg base TH 1 "_law_end" ["_law_number", "_law_rooms"] fM) : a6 P w K mg base TH 2 "_law_mixed_row" ["_law_number", "_law_rooms", "_law_signs"] dD :=
 @c8 P w K mg base TH "_law_mixed_row" (top 21) ["_law_number", "_law_rooms", "_law_signs", "_law_pieces", "_law_k", "_law_cells"] ["_law_number", "_law_rooms", "_law_signs"] 1 jA D k9 (fun f cdv A outer s H F E hr => by
  have nd := k9.nd
  exact (Fl.aE (eQ (L2.aJ (i := 3) nd rfl (Or.inl rfl) (eJ bF)))
   (Fl.aE (Fl.eW (bR 4) (L2.eW (eP ⟨rfl, rfl⟩) rfl (lK (jD rfl T.b_range (aI (aB (aU (dI rfl) cK (aC (pv 2)) (aB aF))) aS))) (bQ (i := 4) nd rfl (Or.inl rfl))
   (Fl.aE (Fl.aJ (L2.aJ (i := 0) nd rfl (Or.inl rfl) (aT (aU cP bS (aB (aU (dI rfl) cK (aB (aU iG fF (aC (pv 0)) (aB aF))) (aB aF))) (aB aF)))))
   (Fl.aN (hR rfl (L2.fD (iY PySem.F.plainAttrs_list PySem.F.slot_list_append PySem.F.type_list_append d4 (pv 3) (aI (aU f8 d8 (aC (pv 0)) (aB aF)) aS))))))))
   (Fl.aE (Fl.aJ (L2.aJ (i := 5) nd rfl (Or.inl rfl) (aT (eF rfl (cU cF rfl T.b_tuple PyProof.Rows.boot_tuple (aI (aB (gN (jI (jF (N := ["_law_piece", "_law_rooms"]) (js := [none, some 1]) rfl (.own (.cap rfl (.inl rfl) (.inl rfl) .nil)) (by rfl) (rW rfl (aB (rX rfl (aC (pv 3)) (aBC (aB aF)) aBB)))) (by decide) (by decide) (is := [0]) (fun cl C s0 H0 fp => ⟨_, (bQ (i := 0) (show (["_law_piece", "_law_rooms"] : List Str).Nodup by decide +kernel) rfl (Or.inl rfl)), (bR 0), Fl.fE, (dP (aM (aU cP bS (aC (pv 0)) (aC (pv 1))) (aM (aU nA kR (aB aF) (aB (aU iG fF (aB (aU f8 d8 (aB (aU cP bS (aB (aU f8 d8 (aC (pv 0)) (aB aF))) (aB aF))) (aB aF))) (aB aF)))) bF)))⟩)))) aS))))))
   (Fl.aN (Fl.bJ (aT (dP (aM (cX (cC rfl rfl rfl (b9 c__law_end (hr.mono (by decide)) rfl (cI fun _ _ _ h => h) (aH (aT (bB (bC rfl) aR (aC (pv 3)) (aB aF))) (aH (aW (pv 1)) bG))))) (aM (bK (pv 5)) (aM (cX (cC rfl rfl rfl (b9 c__law_end (hr.mono (by decide)) rfl (cI fun _ _ _ h => h) (aH (aT (bB (bC rfl) aR (aC (pv 3)) (aB aF))) (aH (aW (pv 1)) bG))))) bF)))))))))))
theorem mU : FnScope ["_law_script", "_law_at", "_law_rooms", "_law_signs", "_law_rows", "_law_room", "_law_row"] ["_law_script", "_law_at", "_law_rooms", "_law_signs"] (aL (top 22)) := by constructor <;> first | rfl | decide +kernel
theorem t7 (T : Txt w K mg) (D : DefAt K mg "_law_machine" (top 22) ["_law_script", "_law_at", "_law_rooms", "_law_signs"]) (c__law_digit_row : a6 P w K mg base TH 1 "_law_digit_row" ["_law_number", "_law_rooms", "_law_signs"] d0) (c__law_mixed_row : a6 P w K mg base TH 2 "_law_mixed_row" ["_law_number", "_law_rooms", "_law_signs"] dD) (c__law_cell : a6 P w K mg base TH 1 "_law_cell" ["_law_script", "_law_k"] bP) : a6 P w K mg base TH 3 "_law_machine" ["_law_script", "_law_at", "_law_rooms", "_law_signs"] eS :=
 @c8 P w K mg base TH "_law_machine" (top 22) ["_law_script", "_law_at", "_law_rooms", "_law_signs", "_law_rows", "_law_room", "_law_row"] ["_law_script", "_law_at", "_law_rooms", "_law_signs"] 2 kD D mU (fun f cdv A outer s H F E hr => by
  have nd := mU.nd
  exact (Fl.aE (eQ (L2.aJ (i := 4) nd rfl (Or.inl rfl) (eJ bF)))
   (Fl.aE (Fl.eW (bR 5) (L2.eW (eP ⟨rfl, rfl⟩) rfl (lK (jD rfl T.b_range (aI (aC (pv 2)) aS))) (bQ (i := 5) nd rfl (Or.inl rfl))
   (Fl.aN (Fl.dA (PW.pt (Fl.iT (Fl.cT w6 rT (aB (aU (dI rfl) cK (aC (pv 1)) (aC (pv 5)))) (aB (cZ rfl (bD b7 rfl T.b_len PySem.boot_len (aI (aC (pv 0)) aS)))) (b8 _)) (Fl.jC (Fl.cT (hJ rfl hr.units) eY (aB (aU cP bS (aB (bB (bC rfl) aR (aC (pv 0)) (aB aF))) (aB aF))) (aB aF) (b8 _))))) (Fl.aN (hR rfl (L2.fD (iY PySem.F.plainAttrs_list PySem.F.slot_list_append PySem.F.type_list_append d4 (pv 4) (aI (cX (cC rfl rfl rfl (b9 c__law_digit_row (hr.mono (by decide)) rfl (cI fun _ _ _ h => h) (aH (aT (bB (bC rfl) aR (aC (pv 0)) (aB (aU (dI rfl) cK (aC (pv 1)) (aC (pv 5)))))) (aH (aW (pv 2)) (aH (aW (pv 3)) bG)))))) aS))))) (Fl.aE (Fl.aJ (L2.aJ (i := 6) nd rfl (Or.inl rfl) (cC rfl rfl rfl (b9 c__law_mixed_row (hr.mono (by decide)) rfl (cI fun _ _ _ h => h) (aH (aT (aU cP bS (aB (cX (cC rfl rfl rfl (b9 c__law_cell (hr.mono (by decide)) rfl (cI fun _ _ _ h => h) (aH (aW (pv 0)) (aH (aT (aU (dI rfl) cK (aC (pv 1)) (aC (pv 5)))) bG)))))) (aB aF))) (aH (aW (pv 2)) (aH (aW (pv 3)) bG)))))))
   (Fl.aE (Fl.dA (PW.pt (Fl.iT (Fl.cT (hJ rfl hr.units) eY (aC (pv 5)) (aB aF) (b8 _)) (Fl.iT (Fl.d3 (kS (bD (hU rfl (qJ _)) rfl T.b_isinstance PyProof.Rows.boot_isinstance (aI (aB (bB (bC rfl) aR (aC (pv 6)) (aB aF))) (aI (iD (v := .ty "str") rfl T.b_str PyProof.Rows.boot_str rfl) aS))))) (Fl.jC (Fl.cT jR gF (aB (aU cP bS (aB (aU f8 d8 (aB (cX (cC rfl rfl rfl (b9 c__law_cell (hr.mono (by decide)) rfl (cI fun _ _ _ h => h) (aH (aW (pv 0)) (aH (aW (pv 1)) bG)))))) (aB aF))) (aB aF))) (aB aF) (b8 _)))))) (Fl.aN (Fl.aJ (L2.aJ (i := 6) nd rfl (Or.inl rfl) (aT (aU (dI rfl) cK (aB (dP (aM (aU cP bS (aB (aU f8 d8 (aB (cX (cC rfl rfl rfl (b9 c__law_cell (hr.mono (by decide)) rfl (cI fun _ _ _ h => h) (aH (aW (pv 0)) (aH (aW (pv 1)) bG)))))) (aB aF))) (aC (pv 2))) bF))) (aB (rX rfl (aC (pv 6)) (aBC (aB aF)) aBB))))))) Fl.cD)
   (Fl.aN (hR rfl (L2.fD (iY PySem.F.plainAttrs_list PySem.F.slot_list_append PySem.F.type_list_append d4 (pv 4) (aI (bK (pv 6)) aS)))))))))))
   (Fl.aN (Fl.bJ (aT (eF rfl (cU cF rfl T.b_tuple PyProof.Rows.boot_tuple (aI (aC (pv 4)) aS)))))))))
theorem pX : FnScope ["_law_machine_here", "_law_strip", "_law_stand", "_law_place", "_law_room", "_law_left", "_law_cells", "_law_right", "_law_there", "_law_step_here"] ["_law_machine_here", "_law_strip", "_law_stand"] (aL (top 23)) := by constructor <;> first | rfl | decide +kernel
theorem yH (T : Txt w K mg) (D : DefAt K mg "_law_step" (top 23) ["_law_machine_here", "_law_strip", "_law_stand"]) : a6 P w K mg base TH 1 "_law_step" ["_law_machine_here", "_law_strip", "_law_stand"] dQ :=
 @c8 P w K mg base TH "_law_step" (top 23) ["_law_machine_here", "_law_strip", "_law_stand", "_law_place", "_law_room", "_law_left", "_law_cells", "_law_right", "_law_there", "_law_step_here"] ["_law_machine_here", "_law_strip", "_law_stand"] 0 mR D pX (fun f cdv A outer s H F E hr => by
  have nd := pX.nd
  exact (Fl.aE (pM (pD rfl (eZ (bR 3) (eZ (bR 4) nB)) rfl) (g6 (bK (pv 2)) (oW rfl (eU (bQ (i := 3) nd rfl (Or.inl rfl)) (eU (bQ (i := 4) nd rfl (Or.inl rfl)) m3)))))
   (Fl.aE (pM (pD rfl (eZ (bR 5) (eZ (bR 6) (eZ (bR 7) nB))) rfl) (g6 (bB (bC rfl) aR (aC (pv 0)) (aC (pv 4))) (oW rfl (eU (bQ (i := 5) nd rfl (Or.inl rfl)) (eU (bQ (i := 6) nd rfl (Or.inl rfl)) (eU (bQ (i := 7) nd rfl (Or.inl rfl)) m3))))))
   (Fl.aE (Fl.dA (PW.pt (Fl.p7 (Fl.cT (hJ rfl hr.units) eY (aC (pv 3)) (aB aF) (b8 _)) (Fl.oV (Fl.cT jR gF (aC (pv 3)) (aB (cZ rfl (bD b7 rfl T.b_len PySem.boot_len (aI (aC (pv 1)) aS)))) (b8 _))))) (Fl.aE (Fl.aJ (L2.aJ (i := 8) nd rfl (Or.inl rfl) (aT (bB (bC rfl) aR (aB (gN (eJ (aM (bK (pv 5)) (aM (bK (pv 7)) bF))))) (aB (uG (cU oZ rfl T.b_int PyProof.Rows.boot_int (aI (aB (lV jR gF (aC (pv 3)) (aB aF) (b8 _))) aS))))))))
   (Fl.aE (Fl.dA (Fl.d3 (kS (bD (hU rfl (qJ _)) rfl T.b_isinstance PyProof.Rows.boot_isinstance (aI (aC (pv 8)) (aI (iD (v := .ty "str") rfl T.b_str PyProof.Rows.boot_str rfl) aS))))) (Fl.aN (Fl.bJ (aT m9))) Fl.cD)
   (Fl.aN (Fl.bJ (aT (dP (aM (bB (bC rfl) aR (aB (gN (eJ (aM aF (aM (cZ rfl (bD b7 rfl T.b_len PySem.boot_len (aI (aC (pv 1)) aS))) bF))))) (aB (uG (cU oZ rfl T.b_int PyProof.Rows.boot_int (aI (aB (lV jR gF (aC (pv 3)) (aB aF) (b8 _))) aS))))) (aM (bK (pv 8)) bF)))))))) Fl.cD)
   (Fl.aE (pM (pD rfl (eZ (bR 8) (eZ (bR 9) nB)) rfl) (g6 (bB (bC rfl) aR (aC (pv 6)) (aB (aEP (iY PySem.F.plainAttrs_str PySem.F.slot_str_index PySem.F.type_str_index aD3 (aB eI) (aI (aB (bB (bC rfl) aR (aC (pv 1)) (aB (aU nA kR (aC (pv 3)) (aB aF))))) aS)) (by intro ρ x h; cases h; exact ⟨_, rfl⟩)))) (oW rfl (eU (bQ (i := 8) nd rfl (Or.inl rfl)) (eU (bQ (i := 9) nd rfl (Or.inl rfl)) m3)))))
   (Fl.aN (Fl.bJ (aT (dP (aM (aU (dI rfl) cK (aC (pv 3)) (aC (pv 9))) (aM (bK (pv 8)) bF)))))))))))
theorem nQ : FnScope ["_law_machine_here", "_law_strip", "_law_stands_here", "_law_met", "_law_after"] ["_law_machine_here", "_law_strip"] (aL (top 24)) := by constructor <;> first | rfl | decide +kernel
theorem uW (T : Txt w K mg) (D : DefAt K mg "_law_stands" (top 24) ["_law_machine_here", "_law_strip"]) (c__law_step : a6 P w K mg base TH 1 "_law_step" ["_law_machine_here", "_law_strip", "_law_stand"] dQ) : a6 P w K mg base TH 2 "_law_stands" ["_law_machine_here", "_law_strip"] iR :=
 @c8 P w K mg base TH "_law_stands" (top 24) ["_law_machine_here", "_law_strip", "_law_stands_here", "_law_met", "_law_after"] ["_law_machine_here", "_law_strip"] 1 k6 D nQ (fun f cdv A outer s H F E hr => by
  have nd := nQ.nd
  exact (Fl.aE (eQ (L2.aJ (i := 2) nd rfl (Or.inl rfl) (eJ (aM (dP (aM aF (aM aF bF))) bF))))
   (Fl.aE (qL rfl (L2.aJ (i := 3) nd rfl (Or.inl rfl) qK))
   (Fl.aE (Fl.dW (L2.dW (eP ⟨rfl, rfl⟩) (nC rfl rfl (j1 (rZ hr.units) (bB (bC rfl) aR (aC (pv 2)) (aB (wC qG mI (aB aF)))) (pv 3) (by with_unfolding_all rfl)))
   (Fl.aE (Fl.lL rfl rfl (g6 mH (m4 (pv 3) (bB (bC rfl) aR (aC (pv 2)) (aB (wC qG mI (aB aF)))) (j7 hr.units))))
   (Fl.aE (Fl.aJ (L2.aJ (i := 4) nd rfl (Or.inl rfl) (cC rfl rfl rfl (b9 c__law_step (hr.mono (by decide)) rfl (cI fun _ _ _ h => h) (aH (aW (pv 0)) (aH (aW (pv 1)) (aH (aT (bB (bC rfl) aR (aC (pv 2)) (aB (wC qG mI (aB aF))))) bG)))))))
   (Fl.aE (Fl.dA (Fl.cT aCW w8 (aC (pv 4)) (aB m9) (b8 _)) (Fl.aN (qH 2 (Fl.bJ (aW (pv 2))))) Fl.cD)
   (Fl.aN (hR rfl (L2.fD (iY PySem.F.plainAttrs_list PySem.F.slot_list_append PySem.F.type_list_append d4 (pv 2) (aI (bK (pv 4)) aS))))))))))
   (Fl.aN (qH 2 (Fl.bJ (aW (pv 2)))))))))
theorem pY : FnScope ["_law_machine_here", "_law_strip", "_law_place", "_law_room"] ["_law_machine_here", "_law_strip"] (aL (top 25)) := by constructor <;> first | rfl | decide +kernel
theorem yI (T : Txt w K mg) (D : DefAt K mg "_law_says" (top 25) ["_law_machine_here", "_law_strip"]) (c__law_stands : a6 P w K mg base TH 2 "_law_stands" ["_law_machine_here", "_law_strip"] iR) (c__law_step : a6 P w K mg base TH 1 "_law_step" ["_law_machine_here", "_law_strip", "_law_stand"] dQ) : a6 P w K mg base TH 3 "_law_says" ["_law_machine_here", "_law_strip"] jX :=
 @c8 P w K mg base TH "_law_says" (top 25) ["_law_machine_here", "_law_strip", "_law_place", "_law_room"] ["_law_machine_here", "_law_strip"] 2 mS D pY (fun f cdv A outer s H F E hr => by
  have nd := pY.nd
  exact (Fl.aE (pM (pD rfl (eZ (bR 2) (eZ (bR 3) nB)) rfl) (g6 (bB (bC rfl) aR (aB (cX (cC rfl rfl rfl (b9 c__law_stands (hr.mono (by decide)) rfl (cI fun _ _ _ h => h) (aH (aW (pv 0)) (aH (aW (pv 1)) bG)))))) (aB (wC qG mI (aB aF)))) (oW rfl (eU (bQ (i := 2) nd rfl (Or.inl rfl)) (eU (bQ (i := 3) nd rfl (Or.inl rfl)) m3)))))
   (Fl.aE (Fl.dA (Fl.cT aEJ aA6 (aB (cX (cC rfl rfl rfl (b9 c__law_step (hr.mono (by decide)) rfl (cI fun _ _ _ h => h) (aH (aW (pv 0)) (aH (aW (pv 1)) (aH (aT (dP (aM (bK (pv 2)) (aM (bK (pv 3)) bF)))) bG))))))) (aB m9) (b8 _)) (Fl.aN (Fl.bJ (aT eI))) Fl.cD)
   (Fl.aN (Fl.bJ (aT (bB (bC rfl) aR (aB (gN (eJ (aM (bB (bC rfl) aR (aB (bB (bC rfl) aR (aC (pv 0)) (aC (pv 3)))) (aB aF)) (aM (bB (bC rfl) aR (aB (bB (bC rfl) aR (aC (pv 0)) (aC (pv 3)))) (aB aF)) bF))))) (aB (uG (cU oZ rfl T.b_int PyProof.Rows.boot_int (aI (aB (lV jR gF (aC (pv 2)) (aB aF) (b8 _))) aS)))))))))))
theorem nR : FnScope ["_law_machine_here", "_law_strip", "_law_place", "_law_room", "_law_met"] ["_law_machine_here", "_law_strip", "_law_place", "_law_room"] (aL (top 26)) := by constructor <;> first | rfl | decide +kernel
theorem uX (T : Txt w K mg) (D : DefAt K mg "_law_beyond" (top 26) ["_law_machine_here", "_law_strip", "_law_place", "_law_room"]) (c__law_step : a6 P w K mg base TH 1 "_law_step" ["_law_machine_here", "_law_strip", "_law_stand"] dQ) : a6 P w K mg base TH 2 "_law_beyond" ["_law_machine_here", "_law_strip", "_law_place", "_law_room"] fU :=
 @c8 P w K mg base TH "_law_beyond" (top 26) ["_law_machine_here", "_law_strip", "_law_place", "_law_room", "_law_met"] ["_law_machine_here", "_law_strip", "_law_place", "_law_room"] 1 k7 D nR (fun f cdv A outer s H F E hr => by
  have nd := nR.nd
  exact (Fl.aE (qL rfl (L2.aJ (i := 4) nd rfl (Or.inl rfl) qK))
   (Fl.aE (Fl.dW (L2.dW (eP ⟨rfl, rfl⟩) (Fl.cT aJR aEG (aC (pv 2)) (aB (cZ rfl (bD b7 rfl T.b_len PySem.boot_len (aI (aC (pv 1)) aS)))) (b8 _))
   (Fl.aE (Fl.dA (nC rfl rfl (j1 (uK hr.units) (dP (aM (bK (pv 2)) (aM (bK (pv 3)) bF))) (pv 4) (by with_unfolding_all rfl))) (Fl.aN (Fl.bJ (aT eI))) Fl.cD)
   (Fl.aE (Fl.lL rfl rfl (g6 mH (m4 (pv 4) (dP (aM (bK (pv 2)) (aM (bK (pv 3)) bF))) (j7 hr.units))))
   (Fl.aE (Fl.dA (PW.pt (Fl.iT (Fl.cT (hJ rfl hr.units) eY (aC (pv 2)) (aB aF) (b8 _)) (Fl.jC (Fl.d3 (kS (bD (hU rfl (qJ _)) rfl T.b_isinstance PyProof.Rows.boot_isinstance (aI (aB (bB (bC rfl) aR (aB (bB (bC rfl) aR (aC (pv 0)) (aC (pv 3)))) (aB aF))) (aI (iD (v := .ty "str") rfl T.b_str PyProof.Rows.boot_str rfl) aS)))))))) (Fl.aN (Fl.bJ (aT (bB (bC rfl) aR (aB (bB (bC rfl) aR (aC (pv 0)) (aC (pv 3)))) (aB aF))))) Fl.cD)
   (Fl.aN (pM (pD rfl (eZ (bR 2) (eZ (bR 3) nB)) rfl) (g6 (cX (cC rfl rfl rfl (b9 c__law_step (hr.mono (by decide)) rfl (cI fun _ _ _ h => h) (aH (aW (pv 0)) (aH (aW (pv 1)) (aH (aT (dP (aM (bK (pv 2)) (aM (bK (pv 3)) bF)))) bG)))))) (oW rfl (eU (bQ (i := 2) nd rfl (Or.inl rfl)) (eU (bQ (i := 3) nd rfl (Or.inl rfl)) m3)))))))))))
   (Fl.aN (Fl.bJ (aW (pv 3)))))))
end
end Mc
namespace Mc
open PySem L2 PyProof.Rows Fl
section
variable {P : Program} {w : World} {K : Frag} {mg : Str -> Option Value} {base : Heap} {TH : Hp}
theorem lA : FnScope ["_law_machine_here", "_law_strip", "_law_backs"] ["_law_machine_here", "_law_strip"] (aL (top 27)) := by constructor <;> first | rfl | decide +kernel
theorem rB (T : Txt w K mg) (D : DefAt K mg "_law_beginning" (top 27) ["_law_machine_here", "_law_strip"]) (c__law_beyond : a6 P w K mg base TH 2 "_law_beyond" ["_law_machine_here", "_law_strip", "_law_place", "_law_room"] fU) : a6 P w K mg base TH 3 "_law_beginning" ["_law_machine_here", "_law_strip"] eO :=
 @c8 P w K mg base TH "_law_beginning" (top 27) ["_law_machine_here", "_law_strip", "_law_backs"] ["_law_machine_here", "_law_strip"] 2 jY D lA (fun f cdv A outer s H F E hr => by
  have nd := lA.nd
  exact (Fl.aE (zJ (L2.sT (i := 2) nd rfl (Or.inl rfl) (by rfl) (N := ["_law_room", "_law_machine_here", "_law_strip"]) (js := [none, some 0, some 1]) rfl (.own (.cap rfl (.inl rfl) (.inl rfl) (.cap rfl (.inl rfl) (.inl rfl) .nil))) (by rfl) (aA8 (lK (jD rfl T.b_range (aI (aB (cZ rfl (bD b7 rfl T.b_len PySem.boot_len (aI (aC (pv 0)) aS)))) aS))))) (by decide) (by decide) (is := [0]) (fun cl C s0 H0 fp => ⟨_, (bQ (i := 0) (show (["_law_room", "_law_machine_here", "_law_strip"] : List Str).Nodup by decide +kernel) rfl (Or.inl rfl)), (bR 0), Fl.fE, (cX (cC rfl rfl rfl (b9 c__law_beyond (hr.mono (by decide)) rfl p9 (aH (aW (pv 1)) (aH (aW (pv 2)) (aH (aT (cZ rfl (bD b7 rfl T.b_len PySem.boot_len (aI (aC (pv 2)) aS)))) (aH (aW (pv 0)) bG)))))))⟩))
   (Fl.aN (Fl.bJ (aT (dP (aM (cX (cC rfl rfl rfl (b9 c__law_beyond (hr.mono (by decide)) rfl (cI fun _ _ _ h => h) (aH (aW (pv 0)) (aH (aW (pv 1)) (aH (aT aF) (aH (aT aF) bG))))))) (aM (eF rfl (cU cF rfl T.b_tuple PyProof.Rows.boot_tuple (aI (aC (pv 2)) aS))) bF))))))))
theorem pZ : FnScope ["_law_machine_here", "_law_signs", "_law_most", "_law_strips", "_law_known", "_law_rows", "_law_row", "_law_sign", "_law_strip", "_law_begun"] ["_law_machine_here", "_law_signs", "_law_most"] (aL (top 28)) := by constructor <;> first | rfl | decide +kernel
theorem yJ (T : Txt w K mg) (D : DefAt K mg "_law_ways" (top 28) ["_law_machine_here", "_law_signs", "_law_most"]) (c__law_beginning : a6 P w K mg base TH 3 "_law_beginning" ["_law_machine_here", "_law_strip"] eO) (c__law_says : a6 P w K mg base TH 3 "_law_says" ["_law_machine_here", "_law_strip"] jX) : a6 P w K mg base TH 4 "_law_ways" ["_law_machine_here", "_law_signs", "_law_most"] eE :=
 @c8 P w K mg base TH "_law_ways" (top 28) ["_law_machine_here", "_law_signs", "_law_most", "_law_strips", "_law_known", "_law_rows", "_law_row", "_law_sign", "_law_strip", "_law_begun"] ["_law_machine_here", "_law_signs", "_law_most"] 3 mT D pZ (fun f cdv A outer s H F E hr => by
  have nd := pZ.nd
  exact (Fl.aE (eQ (L2.aJ (i := 3) nd rfl (Or.inl rfl) (eJ (aM eI bF))))
   (Fl.aE (zQ rfl rfl (L2.aJ (i := 4) nd rfl (Or.inl rfl) (zO hr.units (xE (cX (cC rfl rfl rfl (b9 c__law_beginning (hr.mono (by decide)) rfl (cI fun _ _ _ h => h) (aH (aW (pv 0)) (aH (aT eI) bG))))) aF zP))))
   (Fl.aE (eQ (L2.aJ (i := 5) nd rfl (Or.inl rfl) (eJ bF)))
   (Fl.aE (Fl.dW (L2.dW (eP ⟨rfl, rfl⟩) (Fl.cT w6 rT (aB (cZ rfl (bD b7 rfl T.b_len PySem.boot_len (aI (aC (pv 5)) aS)))) (aB (cZ rfl (bD b7 rfl T.b_len PySem.boot_len (aI (aC (pv 3)) aS)))) (b8 _))
   (Fl.aE (eQ (L2.aJ (i := 6) nd rfl (Or.inl rfl) (eJ bF)))
   (Fl.aE (Fl.eW (bR 7) (L2.eW (eP ⟨rfl, rfl⟩) rfl (aA9 rfl (rX rfl (aB eI) aBB (aBC (aC (pv 1))))) (bQ (i := 7) nd rfl (Or.inl rfl))
   (Fl.aE (Fl.aJ (L2.aJ (i := 8) nd rfl (Or.inl rfl) (aT (aU (dI rfl) cK (aB (bB (bC rfl) aR (aC (pv 3)) (aB (cZ rfl (bD b7 rfl T.b_len PySem.boot_len (aI (aC (pv 5)) aS)))))) (aC (pv 7))))))
   (Fl.aE (Fl.aJ (L2.aJ (i := 9) nd rfl (Or.inl rfl) (cC rfl rfl rfl (b9 c__law_beginning (hr.mono (by decide)) rfl (cI fun _ _ _ h => h) (aH (aW (pv 0)) (aH (aW (pv 8)) bG))))))
   (Fl.aE (Fl.dA (nC rfl rfl (j1 (rZ hr.units) (bK (pv 9)) (pv 4) (by with_unfolding_all rfl))) (Fl.aE (Fl.lL rfl rfl (g6 (cZ rfl (bD b7 rfl T.b_len PySem.boot_len (aI (aC (pv 3)) aS))) (m4 (pv 4) (bK (pv 9)) (j7 hr.units))))
   (Fl.aN (hR rfl (L2.fD (iY PySem.F.plainAttrs_list PySem.F.slot_list_append PySem.F.type_list_append d4 (pv 3) (aI (bK (pv 8)) aS)))))) Fl.cD)
   (Fl.aN (hR rfl (L2.fD (iY PySem.F.plainAttrs_list PySem.F.slot_list_append PySem.F.type_list_append d4 (pv 6) (aI (zN rfl rfl (zM hr.units (pv 4) (bK (pv 9)) (fun _ _ => rfl))) aS))))))))))
   (Fl.aE (hR rfl (L2.fD (iY PySem.F.plainAttrs_list PySem.F.slot_list_append PySem.F.type_list_append d4 (pv 5) (aI (eF rfl (cU cF rfl T.b_tuple PyProof.Rows.boot_tuple (aI (aC (pv 6)) aS))) aS))))
   (Fl.aN (Fl.dA (Fl.cT jR gF (aB (cZ rfl (bD b7 rfl T.b_len PySem.boot_len (aI (aC (pv 3)) aS)))) (aC (pv 2)) (b8 _)) (Fl.aN (Fl.bJ (aT m9))) Fl.cD)))))))
   (Fl.aN (qH 3 (Fl.bJ (aT (dP (aM (bK (pv 3)) (aM (eF rfl (cU cF rfl T.b_tuple PyProof.Rows.boot_tuple (aI (aC (pv 5)) aS))) (aM (eF rfl (cU cF rfl T.b_tuple PyProof.Rows.boot_tuple (aI (aB (gN (jI (jF (N := ["_law_strip", "_law_machine_here"]) (js := [none, some 0]) rfl (.own (.cap rfl (.inl rfl) (.inl rfl) .nil)) (by rfl) (rW rfl (aC (pv 3)))) (by decide) (by decide) (is := [0]) (fun cl C s0 H0 fp => ⟨_, (bQ (i := 0) (show (["_law_strip", "_law_machine_here"] : List Str).Nodup by decide +kernel) rfl (Or.inl rfl)), (bR 0), Fl.fE, (cX (cC rfl rfl rfl (b9 c__law_says (hr.mono (by decide)) rfl p9 (aH (aW (pv 1)) (aH (aW (pv 0)) bG)))))⟩)))) aS))) bF)))))))))))))
theorem p4 : FnScope ["_law_machine_here", "_law_found", "e"] ["_law_machine_here"] (aL (top 29)) := by constructor <;> first | rfl | decide +kernel
theorem yK (T : Txt w K mg) (D : DefAt K mg "_law_told" (top 29) ["_law_machine_here"]) (c_one_way : a6 P w K mg base TH 14 "one_way" ["machine"] jK) {Wp_TooMany Cp_TooMany : Addr} (erp_TooMany : ErrP K mg "TooMany" Wp_TooMany Cp_TooMany) (U_TooMany : UpK K mg ["TooMany"]) (I_TooMany_NotLike : Is1 K mg "TooMany" "NotLike" false) (J_TooMany_ValueError : xG K mg "TooMany" "ValueError" true) (I_TooMany_TooMany : Is1 K mg "TooMany" "TooMany" true) : a6 P w K mg base TH 15 "_law_told" ["_law_machine_here"] cJ :=
 @c8 P w K mg base TH "_law_told" (top 29) ["_law_machine_here", "_law_found", "e"] ["_law_machine_here"] 14 jZ D p4 (fun f cdv A outer s H F E hr => by
  have nd := p4.nd
  exact (Fl.aE (Fl.aJ (L2.aJ (i := 1) nd rfl (Or.inl rfl) (aT m9)))
   (Fl.aE (aHA (i := 2) (j := 1) rfl rfl ⟨rfl, rfl⟩ nd rfl (Or.inl rfl) rfl rfl rfl U_TooMany.choose_spec.choose_spec.1 U_TooMany.choose_spec.choose_spec.2.1 U_TooMany.choose_spec.choose_spec.2.2 (fun pn σ E1 => aJ7 c_one_way (hr.mono (by decide)) rfl (aH (aW (pv 0)) bG)) (fun e1 => (Fl.aE (Fl.aJ (L2.aJ (i := 1) nd rfl (Or.inl rfl) (aT eI)))
   (Fl.aN (Fl.dA (PW.pt (Fl.iT (Fl.d3 (aDL rfl (aAK erp_TooMany.c erp_TooMany.m I_TooMany_TooMany) fun D hD => bD fP rfl T.b_isinstance PyProof.Rows.boot_isinstance (aI (pv 2) (aI (mZ (v := .ref D) rfl hD rfl) aS)))) (Fl.iT (Fl.d3 (aDK rfl rfl (aFI erp_TooMany.c erp_TooMany.m J_TooMany_ValueError aAJ) (bD fP rfl T.b_isinstance PyProof.Rows.boot_isinstance (aI (pv 2) (aI (iD (v := .ty "ValueError") rfl T.b_ValueError aHB rfl) aS))))) (Fl.jC (Fl.iU (Fl.d3 (aDL rfl (aAK erp_TooMany.c erp_TooMany.m I_TooMany_NotLike) fun D hD => bD fP rfl T.b_isinstance PyProof.Rows.boot_isinstance (aI (pv 2) (aI (mZ (v := .ref D) rfl hD rfl) aS))))))))) (Fl.aN (Fl.aJ (L2.aJ (i := 1) nd rfl (Or.inl rfl) (aT eI)))) Fl.cD)))))
   (Fl.aN (Fl.bJ (aW (pv 1)))))))
theorem nS : FnScope ["_law_rows", "_law_row", "_law_room"] ["_law_rows"] (aL (top 30)) := by constructor <;> first | rfl | decide +kernel
theorem uY (T : Txt w K mg) (D : DefAt K mg "_law_wholes" (top 30) ["_law_rows"]) : a6 P w K mg base TH 1 "_law_wholes" ["_law_rows"] dR :=
 @c8 P w K mg base TH "_law_wholes" (top 30) ["_law_rows", "_law_row", "_law_room"] ["_law_rows"] 0 iS D nS (fun f cdv A outer s H F E hr => by
  have nd := nS.nd
  exact (Fl.aE (Fl.eW (bR 1) (L2.eW (eP ⟨rfl, rfl⟩) rfl (aA9 rfl (bK (pv 0))) (bQ (i := 1) nd rfl (Or.inl rfl))
   (Fl.aE (Fl.dA (Fl.iU (Fl.d3 (kS (bD (hU rfl (vK _)) rfl T.b_isinstance PyProof.Rows.boot_isinstance (aI (aC (pv 1)) (aI (iD (v := .ty "tuple") rfl T.b_tuple PyProof.Rows.boot_tuple rfl) aS)))))) (Fl.aN (Fl.bJ (aT mH))) Fl.cD)
   (Fl.aN (Fl.eW (bR 2) (L2.eW (eP ⟨rfl, rfl⟩) rfl (aA9 rfl (bK (pv 1))) (bQ (i := 2) nd rfl (Or.inl rfl))
   (Fl.aN (Fl.dA (PW.pt (Fl.p7 (Fl.iU (Fl.d3 (kS (bD (hU rfl (aG5 _)) rfl T.b_isinstance PyProof.Rows.boot_isinstance (aI (aC (pv 2)) (aI (iD (v := .ty "int") rfl T.b_int PyProof.Rows.boot_int rfl) aS)))))) (Fl.oV (Fl.d3 (kS (bD (hU rfl (aEM _)) rfl T.b_isinstance PyProof.Rows.boot_isinstance (aI (aC (pv 2)) (aI (iD (v := .ty "bool") rfl T.b_bool PyProof.Rows.boot_bool rfl) aS)))))))) (Fl.aN (Fl.bJ (aT mH))) Fl.cD))))))))
   (Fl.aN (Fl.bJ (aT mH)))))
theorem aDN : FnScope ["_law_script", "_law_rooms", "_law_signs", "_law_machine_here", "_law_ways_here", "_law_found"] ["_law_script"] (aL (top 31)) := by constructor <;> first | rfl | decide +kernel
theorem aLL (T : Txt w K mg) {fL : Addr} {fdL : FuncData} (FL : Fun K "law" "law" (top 31) fL fdL) (c__law_cell : a6 P w K mg base TH 1 "_law_cell" ["_law_script", "_law_k"] bP) (c__law_machine : a6 P w K mg base TH 3 "_law_machine" ["_law_script", "_law_at", "_law_rooms", "_law_signs"] eS) (c__law_ways : a6 P w K mg base TH 4 "_law_ways" ["_law_machine_here", "_law_signs", "_law_most"] eE) (c__law_told : a6 P w K mg base TH 15 "_law_told" ["_law_machine_here"] cJ) (c__law_wholes : a6 P w K mg base TH 1 "_law_wholes" ["_law_rows"] dR) : FnOk P w K mg base (CXe P w) 16 fL fdL ["_law_script"] (spF (gOf P w K mg base TH) K mg 1 aBQ) :=
 @aJ0 P w K mg base TH "law" (top 31) ["_law_script", "_law_rooms", "_law_signs", "_law_machine_here", "_law_ways_here", "_law_found"] ["_law_script"] 15 fL fdL aBP FL aDN (fun cdv A outer s H F E hr => by
  have nd := aDN.nd
  exact (Fl.aE (Fl.aJ (L2.aJ (i := 1) nd rfl (Or.inl rfl) (aT (aU (dI rfl) cK (aB aF) (aB (aU cP bS (aB (cX (cC rfl rfl rfl (b9 c__law_cell (hr.mono (by decide)) rfl (cI fun _ _ _ h => h) (aH (aW (pv 0)) (aH (aT aF) bG)))))) (aB aF)))))))
   (Fl.aE (Fl.aJ (L2.aJ (i := 2) nd rfl (Or.inl rfl) (aT (aU (dI rfl) cK (aB aF) (aB (aU cP bS (aB (cX (cC rfl rfl rfl (b9 c__law_cell (hr.mono (by decide)) rfl (cI fun _ _ _ h => h) (aH (aW (pv 0)) (aH (aT aF) bG)))))) (aB aF)))))))
   (Fl.aE (Fl.dA (PW.pt (Fl.iT (Fl.cT (hJ rfl hr.units) eY (aC (pv 1)) (aB aF) (b8 _)) (Fl.jC (Fl.cT (hJ rfl hr.units) eY (aC (pv 2)) (aB aF) (b8 _))))) (Fl.aN (Fl.aJ (L2.aJ (i := 2) nd rfl (Or.inl rfl) (aT (aU nA kR (aB aF) (aB (aU cP bS (aB (cX (cC rfl rfl rfl (b9 c__law_cell (hr.mono (by decide)) rfl (cI fun _ _ _ h => h) (aH (aW (pv 0)) (aH (aT aF) bG)))))) (aB aF)))))))) Fl.cD)
   (Fl.aE (Fl.aJ (L2.aJ (i := 3) nd rfl (Or.inl rfl) (cC rfl rfl rfl (b9 c__law_machine (hr.mono (by decide)) rfl (cI fun _ _ _ h => h) (aH (aW (pv 0)) (aH (aT aF) (aH (aW (pv 1)) (aH (aW (pv 2)) bG))))))))
   (Fl.aE (Fl.aJ (L2.aJ (i := 4) nd rfl (Or.inl rfl) (cC rfl rfl rfl (b9 c__law_ways (hr.mono (by decide)) rfl (cI fun _ _ _ h => h) (aH (aW (pv 3)) (aH (aW (pv 2)) (aH (aT aF) bG)))))))
   (Fl.aE (Fl.aJ (L2.aJ (i := 5) nd rfl (Or.inl rfl) (cC rfl rfl rfl (b9 c__law_told (hr.mono (by decide)) rfl (cI fun _ _ _ h => h) (aH (aW (pv 3)) bG)))))
   (Fl.aE (Fl.dA (Fl.cT aCW w8 (aC (pv 4)) (aB m9) (b8 _)) (Fl.aN (Fl.bJ (aT (aJV (lV (hJ rfl hr.units) eY (aC (pv 5)) (aB eI) (b8 _)) (aJU (lV (hJ rfl hr.units) eY (aB (cX (cC rfl rfl rfl (b9 c__law_told (hr.mono (by decide)) rfl (cI fun _ _ _ h => h) (aH (aW (pv 3)) bG))))) (aB eI) (b8 _))))))) Fl.cD)
   (Fl.aE (Fl.dA (PW.pt (Fl.p7 (Fl.cT (aJT rfl hr.units) aEI (aC (pv 5)) (aB (dP (aM (bB (bC rfl) aR (aC (pv 4)) (aB aF)) (aM (bB (bC rfl) aR (aC (pv 4)) (aB aF)) bF)))) (b8 _)) (Fl.p7 (Fl.iU (Fl.d3 (kS (bD (hU rfl (vK _)) rfl T.b_isinstance PyProof.Rows.boot_isinstance (aI (aC (pv 5)) (aI (iD (v := .ty "tuple") rfl T.b_tuple PyProof.Rows.boot_tuple rfl) aS)))))) (Fl.oV (Fl.iU (Fl.d3 (cX (cC rfl rfl rfl (b9 c__law_wholes (hr.mono (by decide)) rfl (cI fun _ _ _ h => h) (aH (aT (bB (bC rfl) aR (aC (pv 5)) (aB aF))) bG)))))))))) (Fl.aN (Fl.bJ (aT mH))) Fl.cD)
   (Fl.aN (Fl.bJ (aT (lV (hJ rfl hr.units) eY (aB (cX (cC rfl rfl rfl (b9 c__law_told (hr.mono (by decide)) rfl (cI fun _ _ _ h => h) (aH (aW (pv 3)) bG))))) (aC (pv 5)) (b8 _))))))))))))))
end
end Mc
namespace Fl
open PySem L2 PyProof.Rows
@[simp] theorem aN2 (i : Nat) (f g : Sg -> R PyData) (ρ : Sg) : aMF i f g ρ = match ρ[i]? with
 | some (some (.m kvs)) => (f ρ).bind fun k => (g ρ).bind fun y => if cQ k (kvs.map (·.1)) = true /\ kvs.length <= 16777216 then .ok (.nx (if d9 kvs k = true then ρ else ρ.set i (some (.m (putM kvs k y))))) else .bad
 | _ => .bad := id rfl
@[simp] theorem aOH (i : Nat) (ρ : Sg) : aNS i ρ = match ρ[i]? with
 | some (some (.l xs)) => .ok (.nx (ρ.set i (some (.l xs.reverse))))
 | _ => .bad := id rfl
end Fl
namespace Mc
open PySem L2 PyProof.Rows Fl
mutual
def nbD : PyData -> Bool
 | .bool _ => false
 | .dict _ => false
 | .list xs => aFJ xs
 | .tuple xs => aFJ xs
 | _ => true
def aFJ : List PyData -> Bool
 | [] => true
 | x :: t => nbD x && aFJ t
end
mutual
theorem yL : ∀ d : PyData, d.canLay0 = true -> d.eqv d = true
 | .none, _ => by rfl
 | .bool b, _ => by simp [PyData.eqv]
 | .int i, _ => by simp [PyData.eqv]
 | .str x, _ => by simp [PyData.eqv]
 | .list xs, h => by
  show PyData.eqvAll xs xs = true
  exact uZ xs h
 | .tuple xs, h => by
  show PyData.eqvAll xs xs = true
  exact uZ xs h
 | .dict _, h => by cases h
theorem uZ : ∀ xs : List PyData, PyData.canLayAll0 xs = true -> PyData.eqvAll xs xs = true
 | [], _ => by rfl
 | x :: t, h => by
  have h' : (x.canLay0 && PyData.canLayAll0 t) = true := h
  rw [Bool.and_eq_true] at h'
  show (x.eqv x && PyData.eqvAll t t) = true
  rw [yL x h'.1, uZ t h'.2]; rfl
end
theorem aDO {d : PyData} (h : SeqAt.shaped d = true) : d.canLay0 = true := by
 have h' : (d.canLay0 && decide (d.depth <= 64)) = true := h
 rw [Bool.and_eq_true] at h'
 exact h'.1
structure Cp (d : PyData) : Prop where
 nb : nbD d = true
 sh : SeqAt.shaped d = true
theorem aDP {x : PyData} (h : SeqAt.shaped x = true) : dEq x x = .ok (.bool true) := by rw [aC6 h h, yL x (aDO h)]
theorem aLM {x : PyData} (h : SeqAt.shaped x = true) : dNe x x = .ok (.bool false) := by rw [aKS h h, yL x (aDO h)]; rfl
end Mc
namespace Mc
open PySem L2 PyProof.Rows Fl
theorem aLN : eE = kN := id rfl
@[simp] theorem aOI (i : Nat) (tb : List (Str × Bool)) (ρ : Sg) : sH i tb ρ = match ρ[i]? with
 | some (some (.x e)) => (match tb.lookup e.c with
  | some b => .ok (.bool b)
  | none => .bad)
 | _ => .bad := id rfl
theorem aN3 {w : Str} (n : Nat) (h : w = "by" \/ w = "out" \/ w = "ever") : Sh n (.str w) := aCF n (by rcases h with rfl | rfl | rfl <;> decide +kernel)
theorem aIG (js : List Nat) : Sh 1 (fC js) := m6 fun x hx => by
 obtain ⟨j, _, rfl⟩ := List.mem_map.mp hx
 exact aCE _ _
theorem aIH {rs : List Rw} {sg N : Nat} (M : Mach rs sg) (hN : N <= 900) : SeqAt.shaped (sG rs sg N) = true := by
 refine Sh.shaped (n := 3) (m6 fun x hx => ?_) (by decide)
 rcases List.mem_cons.mp hx with q | q
 ·subst q
  refine m6 fun x hx => ?_
  obtain ⟨y, _, rfl⟩ := List.mem_map.mp hx
  exact aIG _
 ·rw [List.mem_singleton.mp q]
  refine m6 fun x hx => ?_
  obtain ⟨z, hz, rfl⟩ := List.mem_map.mp hx
  exact aN3 _ (aFA M ((l9 M N hN).ok z hz).1)
def whB : Sg -> R Fw := (aD (sIf (gR (e1 asB (e1 (dN "tuple") (rV 1)))) (aY (vD (eC (.bool false)))) sNx)
 (jT (e1 bT (eV 1)) (stN 2) (sIf (bOr (gR (e1 asB (e1 (dN "int") (rV 2)))) (e1 asB (e1 (dN "bool") (rV 2)))) (aY (vD (eC (.bool false)))) sNx)))
theorem aFK {gs : List (List Nat)} (hg : ∀ js ∈ gs, js.length <= 1000) (hl : gs.length <= 1000) : dR [.d (.tuple (gs.map fC))] = .ok (.d (.bool true)) := by
 have a1 : gT "tuple" "tuple" = true := rfl
 have a2 : gT "int" "int" = true := rfl
 have a3 : gT "int" "bool" = false := rfl
 obtain ⟨ρ', q1, u, v, q2⟩ := i8 (fs := stN 1) (fb := whB) (d := fC) (xs := gs) (ρ := [some (.d (.tuple (gs.map fC))), none, none])
  (fun i ρ => ∃ u v, ρ = [some (.d (.tuple (gs.map fC))), u, v]) ⟨none, none, rfl⟩ fun i js ρ hi ⟨u, v, e⟩ => by
  obtain ⟨ρ2, r1, w, r2⟩ := i8 (fs := stN 2) (fb := (sIf (bOr (gR (e1 asB (e1 (dN "int") (rV 2)))) (e1 asB (e1 (dN "bool") (rV 2)))) (aY (vD (eC (.bool false)))) sNx)) (d := fun j : Nat => .int (j : Int)) (xs := js) (ρ := [some (.d (.tuple (gs.map fC))), some (.d (fC js)), v])
   (fun i ρ => ∃ w, ρ = [some (.d (.tuple (gs.map fC))), some (.d (fC js)), w]) ⟨v, rfl⟩ fun i j ρ hi ⟨w, e⟩ => ⟨[some (.d (.tuple (gs.map fC))), some (.d (fC js)), some (.d (.int (j : Int)))], _, by rw [e]; rfl, .inl (by simp [a2, a3]; rfl), _, rfl⟩
  subst r2
  refine ⟨[some (.d (.tuple (gs.map fC))), some (.d (fC js)), v], _, by rw [e]; rfl, .inl ?_, some (.d (fC js)), w, rfl⟩
  have hi2 : bT (fC js) = .ok (js.map fun j : Nat => .int (j : Int)) := oJ (by rw [List.length_map]; have := hg js (List.mem_of_getElem? hi); omega)
  have hT : dN "tuple" (fC js) = .ok (.bool true) := rfl
  simp only [whB, bL, l6, zZ, kK, iL, List.getElem?_cons_zero, List.getElem?_cons_succ, R.bind_ok, hT, nF, Bool.not_true, Bool.false_eq_true, if_false, xS, qN, wE, hi2, r1]
 subst q2
 have hi0 : bT (.tuple (gs.map fC)) = .ok (gs.map fC) := oJ (by rw [List.length_map]; omega)
 unfold dR iS
 change fnF 3 (aD (jT _ (stN 1) whB) _) _ = _
 simp [hi0, q1]
theorem aLO {rs : List Rw} {sg N : Nat} (M : Mach rs sg) (E : EndW rs sg 200 N) (hN : N <= 200) : cJ [.d (bV rs)] = .ok (.d (if 200 < (bfW rs sg N).length then .str "many" else sG rs sg N)) := by
 have h := aLH M E hN
 unfold cJ jZ
 by_cases q : 200 < (bfW rs sg N).length
 ·rw [if_pos q] at h ⊢
  simp [aAA, h, aET]
 ·rw [if_neg q] at h ⊢
  simp [aAA, h, putO]
def lwT : Sg -> R Fw := (aD (bN 3 (aV 4 eS (aA (vV 0) (aA (vD (eC (.int 3))) (aA (vV 1) (aA (vV 2) aG))))))
 (aD (bN 4 (aV 3 eE (aA (vV 3) (aA (vV 2) (aA (vD (eC (.int 200))) aG)))))
 (aD (bN 5 (aV 1 cJ (aA (vV 3) aG)))
 (aD (sIf (e1 asB (e2 dIs (rV 4) (eC .none))) (aY (vD (aA7 (e2 dEq (rV 5) (eC (.str "many"))) (e2 dEq (eA (aV 1 cJ (aA (vV 3) aG))) (eC (.str "many")))))) sNx)
 (aD (sIf (bOr (e1 asB (e2 dNe (rV 5) (cG (aA (e2 dIx (rV 4) (eC (.int 1))) (aA (e2 dIx (rV 4) (eC (.int 2))) aG))))) (bOr (gR (e1 asB (e1 (dN "tuple") (rV 5)))) (gR (e1 asB (eA (aV 1 dR (aA (vD (e2 dIx (rV 5) (eC (.int 0)))) aG))))))) (aY (vD (eC (.bool false)))) sNx)
 (aY (vD (e2 dEq (eA (aV 1 cJ (aA (vV 3) aG))) (rV 5)))))))))
theorem u0 {ns : List Int} {n sg : Nat} (n1 : 1 <= n) (n3 : n <= 3) (s1 : 1 <= sg) (s3 : sg <= 3) : lwT [some (.d (kE ns)), some (.d (.int (n : Int))), some (.d (.int (sg : Int))), none, none, none] = .ok (.rt (.d (.bool true))) := by
 unfold lwT
 obtain ⟨rs, e3, M, hl⟩ := aKX (ns := ns) (at' := 3) (n := n) (sg := sg) (by decide) n1 (by omega) s1 s3
 obtain ⟨N, hN, E⟩ := aIB rs sg 200
 have hw := aLK M E (by omega) (by omega) hN
 have ht := aLO M E hN
 rw [<- aLN] at hw
 have hw : eE [.d (bV rs), .d (.int (sg : Int)), .d (.int 200)] = _ := hw
 have hs := aIH M (N := N) (by omega)
 have hb : 200 < (bfW rs sg N).length \/ ¬ 200 < (bfW rs sg N).length := by omega
 rcases hb with q | q
 ·rw [if_pos q] at hw ht
  have hm : dEq (.str "many") (.str "many") = .ok (.bool true) := aDP (by decide +kernel)
  simp [e3, hw, ht, hm, g4]
 ·rw [if_neg q] at hw ht
  have hq : (PyData.tuple [.tuple (bX (afW rs sg) (bfW rs sg N) N), .tuple ((zsW rs sg N).map fun z => .str (g5 rs z))]) = sG rs sg N := rfl
  have i1 : dIx (qT rs sg N) (.int 1) = .ok (.tuple (bX (afW rs sg) (bfW rs sg N) N)) := rfl
  have i2 : dIx (qT rs sg N) (.int 2) = .ok (.tuple ((zsW rs sg N).map fun z => .str (g5 rs z))) := rfl
  have i0 : dIx (sG rs sg N) (.int 0) = .ok (.tuple (bX (afW rs sg) (bfW rs sg N) N)) := rfl
  have hT : dN "tuple" (sG rs sg N) = .ok (.bool true) := rfl
  have hNn : g4 (qT rs sg N) = false := rfl
  have hwh := aFK (gs := ((bfW rs sg N).take N).map fun x => (afW rs sg x).map (nrQ (bfW rs sg N))) (fun js hj => by
   obtain ⟨x, _, rfl⟩ := List.mem_map.mp hj
   unfold afW; simp; omega) (by rw [List.length_map, List.length_take]; omega)
  rw [List.map_map, show ((bfW rs sg N).take N).map (fC ∘ fun x => (afW rs sg x).map (nrQ (bfW rs sg N))) = bX (afW rs sg) (bfW rs sg N) N from rfl] at hwh
  simp only [bL, nE, l5, i7, gB, tO, oF, lF, List.getElem?_cons_zero, List.getElem?_cons_succ, R.bind_ok, List.length_cons, List.length_nil, Nat.reduceAdd, if_true, List.set_cons_zero, List.set_cons_succ, e3, hw, ht, l6, kK, kL, iL, aMH, hNn, nF, Bool.false_eq_true, if_false, xS, aKK, i1, i2, zX, Nat.reduceLeDiff, hq, aLM hs, zZ, hT, Bool.not_true, aBJ, i0, hwh, xR, aHP, aDP hs]
theorem aFL : ∀ ns : List Int, ns.length <= 63 -> aBQ [.d (.list (ns.map .int))] = .ok (.d (.bool true)) := by
 intro ns hns
 rw [show PyData.list (ns.map .int) = kE ns from rfl]
 obtain ⟨v0, hv0⟩ := pS ns 0
 obtain ⟨v1, hv1⟩ := pS ns 1
 obtain ⟨v2, hv2⟩ := pS ns 2
 have k3 : ∀ y : Int, dMod (.int y) (.int 3) = .ok (.int (y % 3)) := fun y => dL (by decide)
 have k2 : ∀ y : Int, dMod (.int y) (.int 2) = .ok (.int (y % 2)) := fun y => dL (by decide)
 obtain ⟨n, hn, n1, n3⟩ : ∃ n : Nat, 1 + v0 % 3 = (n : Int) /\ 1 <= n /\ n <= 3 := ⟨(1 + v0 % 3).toNat, by omega, by omega, by omega⟩
 obtain ⟨sg, hs, s1, s3⟩ : ∃ sg : Nat, 1 + v1 % 3 = (sg : Int) /\ 1 <= sg /\ sg <= 3 := ⟨(1 + v1 % 3).toNat, by omega, by omega, by omega⟩
 unfold aBQ aBP
 change fnF 6 (aD _ (aD _ (aD _ lwT))) _ = _
 by_cases h1 : (n : Int) = 3
 ·by_cases h2 : (sg : Int) = 3
  ·obtain ⟨sg', hs', s1', s3'⟩ : ∃ sg : Nat, 2 - v2 % 2 = (sg : Int) /\ 1 <= sg /\ sg <= 3 := ⟨(2 - v2 % 2).toNat, by omega, by omega, by omega⟩
   have t := u0 (ns := ns) n1 n3 s1' s3'
   rw [h1] at t
   simp [hv0, hv1, hv2, k3, k2, hn, hs, hs', h1, h2, c9, t]
  ·have t := u0 (ns := ns) n1 n3 s1 s3
   rw [h1] at t
   simp [hv0, hv1, k3, hn, hs, h1, h2, c9, t]
 ·have t := u0 (ns := ns) n1 n3 s1 s3
  simp [hv0, hv1, k3, hn, hs, h1, c9, t]
end Mc
namespace Mc
open PySem L2 PyProof.Rows Fl
section
variable {P : Program} {w : World} {K : Frag} {mg : Str -> Option Value} {base : Heap} {TH : Hp}
theorem aII (T : Txt w K mg) (Erp_TooMany : ∃ W C, ErrP K mg "TooMany" W C) (U_TooMany : UpK K mg ["TooMany"]) (I_TooMany_NotLike : Is1 K mg "TooMany" "NotLike" false) (J_TooMany_ValueError : xG K mg "TooMany" "ValueError" true) (I_TooMany_TooMany : Is1 K mg "TooMany" "TooMany" true) (D5 : DefAt K mg "signs_of" (top 5) ["machine"]) (D6 : DefAt K mg "cells_of" (top 6) ["machine", "number"]) (D8 : DefAt K mg "reached" (top 8) ["begin", "after", "done"]) (D11 : DefAt K mg "is_word" (top 11) ["part"]) (D12 : DefAt K mg "without_signs" (top 12) ["machine"]) (D13 : DefAt K mg "gone_on" (top 13) ["backs", "cells", "room"]) (D14 : DefAt K mg "longer" (top 14) ["begun", "cells"]) (D15 : DefAt K mg "word_behind" (top 15) ["machine", "begun"]) (D16 : DefAtT K mg base TH qsT "one_way" (top 16) ["machine"]) (D18 : DefAt K mg "_law_cell" (top 18) ["_law_script", "_law_k"]) (D19 : DefAt K mg "_law_end" (top 19) ["_law_number", "_law_rooms"]) (D20 : DefAt K mg "_law_digit_row" (top 20) ["_law_number", "_law_rooms", "_law_signs"]) (D21 : DefAt K mg "_law_mixed_row" (top 21) ["_law_number", "_law_rooms", "_law_signs"]) (D22 : DefAt K mg "_law_machine" (top 22) ["_law_script", "_law_at", "_law_rooms", "_law_signs"]) (D23 : DefAt K mg "_law_step" (top 23) ["_law_machine_here", "_law_strip", "_law_stand"]) (D24 : DefAt K mg "_law_stands" (top 24) ["_law_machine_here", "_law_strip"]) (D25 : DefAt K mg "_law_says" (top 25) ["_law_machine_here", "_law_strip"]) (D26 : DefAt K mg "_law_beyond" (top 26) ["_law_machine_here", "_law_strip", "_law_place", "_law_room"]) (D27 : DefAt K mg "_law_beginning" (top 27) ["_law_machine_here", "_law_strip"]) (D28 : DefAt K mg "_law_ways" (top 28) ["_law_machine_here", "_law_signs", "_law_most"]) (D29 : DefAt K mg "_law_told" (top 29) ["_law_machine_here"]) (D30 : DefAt K mg "_law_wholes" (top 30) ["_law_rows"]) {fL : Addr} {fdL : FuncData} (FL : Fun K "law" "law" (top 31) fL fdL) : FnOk P w K mg base (CXe P w) 16 fL fdL ["_law_script"] (aBF K TH) := by
 obtain ⟨Wp_TooMany, Cp_TooMany, erp_TooMany⟩ := Erp_TooMany
 have c_signs_of := @yV P w K mg base TH T D5 
 have c_cells_of := @yW P w K mg base TH T D6 
 have c_reached := @aBR P w K mg base TH T D8 
 have c_is_word := @aBS P w K mg base TH T D11 
 have c_without_signs := @sJ P w K mg base TH T D12 
 have c_gone_on := @aBT P w K mg base TH T D13 c_is_word
 have c_longer := @aDM P w K mg base TH T D14 c_gone_on
 have c_word_behind := @uV P w K mg base TH T D15 c_is_word
 have c_one_way := aBU (P := P) (w := w) (base := base) (TH := TH) T D16 c_signs_of c_cells_of c_longer c_reached c_without_signs c_word_behind erp_TooMany
 have c__law_cell := @yG P w K mg base TH T D18 
 have c__law_end := @yX P w K mg base TH T D19 
 have c__law_digit_row := @q9 P w K mg base TH T D20 
 have c__law_mixed_row := @rA P w K mg base TH T D21 c__law_end
 have c__law_machine := @t7 P w K mg base TH T D22 c__law_digit_row c__law_mixed_row c__law_cell
 have c__law_step := @yH P w K mg base TH T D23 
 have c__law_stands := @uW P w K mg base TH T D24 c__law_step
 have c__law_says := @yI P w K mg base TH T D25 c__law_stands c__law_step
 have c__law_beyond := @uX P w K mg base TH T D26 c__law_step
 have c__law_beginning := @rB P w K mg base TH T D27 c__law_beyond
 have c__law_ways := @yJ P w K mg base TH T D28 c__law_beginning c__law_says
 have c__law_told := yK (P := P) (w := w) (base := base) (TH := TH) T D29 c_one_way erp_TooMany U_TooMany I_TooMany_NotLike J_TooMany_ValueError I_TooMany_TooMany
 have c__law_wholes := @uY P w K mg base TH T D30 
 exact aJ1 (aLL (P := P) (w := w) (base := base) (TH := TH) T FL c__law_cell c__law_machine c__law_ways c__law_told c__law_wholes) aFL
end
section
variable {w : World} {K : Frag} {h : Heap} {mg : Str -> Option Value}
theorem aLP (X : K.In h) (G : h.Ns mainGlobals mg) {t_MOST_BEGINNINGS : Nat} (z_ValueError : PySem.W.nsIn K mainGlobals "ValueError" = some none) (z_bool : PySem.W.nsIn K mainGlobals "bool" = some none) (z_int : PySem.W.nsIn K mainGlobals "int" = some none) (z_isinstance : PySem.W.nsIn K mainGlobals "isinstance" = some none) (z_len : PySem.W.nsIn K mainGlobals "len" = some none) (z_range : PySem.W.nsIn K mainGlobals "range" = some none) (z_str : PySem.W.nsIn K mainGlobals "str" = some none) (z_tuple : PySem.W.nsIn K mainGlobals "tuple" = some none) (s_MOST_BEGINNINGS : PySem.W.nsIn K mainGlobals "MOST_BEGINNINGS" = some (some (.int 200 t_MOST_BEGINNINGS))) : Txt w K mg := ⟨PySem.W.mg_none_of X G z_ValueError, PySem.W.mg_none_of X G z_bool, PySem.W.mg_none_of X G z_int, PySem.W.mg_none_of X G z_isinstance, PySem.W.mg_none_of X G z_len, PySem.W.mg_none_of X G z_range, PySem.W.mg_none_of X G z_str, PySem.W.mg_none_of X G z_tuple, ⟨t_MOST_BEGINNINGS, PySem.W.mg_of X G s_MOST_BEGINNINGS⟩⟩
theorem aLQ {x : Str} (X : K.In h) (G : h.Ns mainGlobals mg) {W C NC : Addr} {bsC subC : List Value} {nmC qC : Str} {abC : Bool} {snC : List Str} {colC : Option Bool} {ddC : Option Addr} {c0 c1 c2 c3 c5 : Option Value} {wc : Value} {wd : Option Addr} {cd : ClassData} {wsl : Array (Option Value)}
  (m : PySem.W.nsIn K mainGlobals x = some (some (.ref C)))
  (e1 : K.lookup C = some (excClassObj nmC qC C NC bsC (.ref W :: SX.g8) true snC subC abC colC ddC c0 c1 c2 c3 c5 "ValueError.__new__"))
  (e2 : PySem.W.findIn K (.ref C) "__setattr__" = some (some (.builtin "object.__setattr__"))) (e3 : PySem.W.findIn K (.ref C) "__getattribute__" = some (some (.builtin "BaseException.__getattribute__"))) (e4 : PySem.W.findIn K (.ref C) "__getattr__" = some none) (e5 : PySem.W.findIn K (.ref C) "__class__" = some (some (.builtin "object.__class__")))
  (e6 : PySem.W.specialIn K (.builtin "object.__class__") "__get__" = some (some (.builtin "getset_descriptor.__get__"))) (e7 : PySem.W.takesIn K (.builtin "object.__class__") = some true) (e8 : PySem.W.keepIn K (.ref C) = true)
  (n1 : PySem.W.nsOkIn K NC = true) (n2 : PySem.W.nsIn K NC "__init__" = some none) (w1 : K.lookup W = some ⟨wc, wd, .cls cd, wsl⟩) (w2 : PySem.W.nsOkIn K cd.ns = true) (w3 : PySem.W.nsIn K cd.ns "__init__" = some none) : ∃ W C, ErrP K mg x W C :=
 ⟨W, C, aGP e1 e2 e3 e4 e5 e6 e7 e8, PySem.W.mg_of X G m, ⟨_, _, NC, _, _, _, _, _, _, _, _, _, _, _, e1, n1, n2⟩, ⟨_, _, cd, _, w1, w2, w3⟩⟩
theorem aDQ {nm q : Str} {b : Bool} (X : K.In h) (G : h.Ns mainGlobals mg) {C D : Addr} (a : PySem.W.nsIn K mainGlobals q = some (some (.ref D))) (m : PySem.W.nsIn K mainGlobals nm = some (some (.ref C))) (k : PySem.W.kitOne K (.ref C) (.ref D) = some b) : Is1 K mg nm q b := ⟨D, C, PySem.W.mg_of X G a, PySem.W.mg_of X G m, k⟩
theorem aIJ {nm : Str} {q : String} {b : Bool} (X : K.In h) (G : h.Ns mainGlobals mg) {C : Addr} (m : PySem.W.nsIn K mainGlobals nm = some (some (.ref C))) (k : PySem.W.kitOne K (.ref C) (.type q) = some b) : xG K mg nm q b := ⟨C, PySem.W.mg_of X G m, k⟩
theorem aMS {nm : Str} (X : K.In h) (G : h.Ns mainGlobals mg) {W C NC NW : Addr} {bsC subC bsW subW bmW : List Value} {nmC qC nmW qW : Str} {abC abW hdW : Bool} {snC snW : List Str} {colC colW : Option Bool} {ddC ddW : Option Addr} {c0 c1 c2 c3 c5 w0 w1 w2 w3 w5 : Option Value} {nidW : String}
  (a : PySem.W.nsIn K mainGlobals "WayError" = some (some (.ref W))) (l : K.lookup W = some (excClassObj nmW qW W NW bsW bmW hdW snW subW abW colW ddW w0 w1 w2 w3 w5 nidW)) (b : bmW.contains (.type "BaseException") = true)
  (m : PySem.W.nsIn K mainGlobals nm = some (some (.ref C)))
  (e1 : K.lookup C = some (excClassObj nmC qC C NC bsC (.ref W :: SX.g8) true snC subC abC colC ddC c0 c1 c2 c3 c5 "ValueError.__new__")) : UpK K mg [nm] :=
 ⟨W, bmW, PySem.W.mg_of X G a, aCG l b, fun n hn => by
  rw [List.mem_singleton.mp hn]
  exact ⟨C, _, PySem.W.mg_of X G m, aCG e1 (SX.aD0 W).hasBase, by simp⟩⟩
theorem rec_in {q : Program} {x : Str} (h : ((recsOf q).any fun d => d.name == x) = true) : ∃ d ∈ recsOf q, d.name = x := by
 obtain ⟨d, hd, e⟩ := List.any_eq_true.mp h
 exact ⟨d, hd, eq_of_beq e⟩
theorem aLR {fa f : Addr} {oc : Value} {od an : Option Addr} {osl : Array (Option Value)} {kV doc pm cdv ct : Value} (X : K.In h) (G : h.Ns mainGlobals mg) (hmg : mg "law" = some (.ref fa)) (a : PySem.W.nsIn K mainGlobals "law" = some (some (.ref f))) (l : K.lookup f = some ⟨oc, od, .func (PySem.W.fnOf "law" "law" (fX (top 31)) (c7 (top 31)) (aL (top 31)) .none kV doc pm an cdv ct), osl⟩)
  (c : PySem.W.codeIn K cdv "law" = true) (k : PySem.W.keepIn K (.ref f) = true) : ∃ fd, Fun K "law" "law" (top 31) fa fd /\ ∀ (s : Shared) (u : Value), BindsTo s fd ⟨[u], []⟩ [("_law_script", u)] := by
 have e := hmg.symm.trans (PySem.W.mg_of X G a)
 cases e
 exact ⟨_, aB7 (st := top 31) l c k, fun s u => .of_eq rfl⟩
end
end Mc
open PySem PySem.W PyProof.Rows
set_option hygiene false
local macro_rules | `(tactic| trivial) => `(tactic| (dsimp only [L2.KOf]; refine' Mc.aD4 KX G ?a ?l ?c ?k ?b; (case a => k_is); (case l => k_is); (case c => k_is); (case k => k_is); first | (case b => exact fun _ _ _ _ _ _ us hl => match us, hl with | [_], _ => rfl) | (case b => exact fun _ _ _ _ _ _ us hl => match us, hl with | [_, _], _ => rfl) | (case b => exact fun _ _ _ _ _ _ us hl => match us, hl with | [_, _, _], _ => rfl) | (case b => exact fun _ _ _ _ _ _ us hl => match us, hl with | [_, _, _, _], _ => rfl)))
set_option hygiene true
set_option maxRecDepth 100000 in
set_option maxHeartbeats 0 in
theorem PySem.Challenge.cw_striproam_k21_rooms_as_first_reached_holds : PySem.Challenge.rw_striproam_k21_rooms_as_first_reached.Holds := by
 w_on; o_law; k_head; (case hw => w_witness2)
 k_fill
 refine Fl.aG6 (l := PySem.Challenge.rw_striproam_k21_rooms_as_first_reached) (k := 16) (x := "_law_script") (qs := Mc.qsT) (xs := ["one_way"]) ?hx ?hNT rfl rfl ⟨rfl, by decide, by decide⟩ (fun w h Y => PySem.W.km_in_of Y) ?F
 case hx =>
  intro x hx
  simp only [List.mem_cons, List.not_mem_nil, or_false] at hx
  rcases hx with rfl <;> exact Mc.rec_in (by decide +kernel)
 case hNT =>
  intro w
  kernel_rfl
 case F =>
  intro w mg fa h KX G hmg
  have D5 : L2.DefAt (L2.KOf KX) mg "signs_of" (Mc.top 5) ["machine"] := by trivial
  have D6 : L2.DefAt (L2.KOf KX) mg "cells_of" (Mc.top 6) ["machine", "number"] := by trivial
  have D8 : L2.DefAt (L2.KOf KX) mg "reached" (Mc.top 8) ["begin", "after", "done"] := by trivial
  have D11 : L2.DefAt (L2.KOf KX) mg "is_word" (Mc.top 11) ["part"] := by trivial
  have D12 : L2.DefAt (L2.KOf KX) mg "without_signs" (Mc.top 12) ["machine"] := by trivial
  have D13 : L2.DefAt (L2.KOf KX) mg "gone_on" (Mc.top 13) ["backs", "cells", "room"] := by trivial
  have D14 : L2.DefAt (L2.KOf KX) mg "longer" (Mc.top 14) ["begun", "cells"] := by trivial
  have D15 : L2.DefAt (L2.KOf KX) mg "word_behind" (Mc.top 15) ["machine", "begun"] := by trivial
  have D16 : L2.DefAt (L2.KOf KX) mg "one_way" (Mc.top 16) ["machine"] := by trivial
  have D18 : L2.DefAt (L2.KOf KX) mg "_law_cell" (Mc.top 18) ["_law_script", "_law_k"] := by trivial
  have D19 : L2.DefAt (L2.KOf KX) mg "_law_end" (Mc.top 19) ["_law_number", "_law_rooms"] := by trivial
  have D20 : L2.DefAt (L2.KOf KX) mg "_law_digit_row" (Mc.top 20) ["_law_number", "_law_rooms", "_law_signs"] := by trivial
  have D21 : L2.DefAt (L2.KOf KX) mg "_law_mixed_row" (Mc.top 21) ["_law_number", "_law_rooms", "_law_signs"] := by trivial
  have D22 : L2.DefAt (L2.KOf KX) mg "_law_machine" (Mc.top 22) ["_law_script", "_law_at", "_law_rooms", "_law_signs"] := by trivial
  have D23 : L2.DefAt (L2.KOf KX) mg "_law_step" (Mc.top 23) ["_law_machine_here", "_law_strip", "_law_stand"] := by trivial
  have D24 : L2.DefAt (L2.KOf KX) mg "_law_stands" (Mc.top 24) ["_law_machine_here", "_law_strip"] := by trivial
  have D25 : L2.DefAt (L2.KOf KX) mg "_law_says" (Mc.top 25) ["_law_machine_here", "_law_strip"] := by trivial
  have D26 : L2.DefAt (L2.KOf KX) mg "_law_beyond" (Mc.top 26) ["_law_machine_here", "_law_strip", "_law_place", "_law_room"] := by trivial
  have D27 : L2.DefAt (L2.KOf KX) mg "_law_beginning" (Mc.top 27) ["_law_machine_here", "_law_strip"] := by trivial
  have D28 : L2.DefAt (L2.KOf KX) mg "_law_ways" (Mc.top 28) ["_law_machine_here", "_law_signs", "_law_most"] := by trivial
  have D29 : L2.DefAt (L2.KOf KX) mg "_law_told" (Mc.top 29) ["_law_machine_here"] := by trivial
  have D30 : L2.DefAt (L2.KOf KX) mg "_law_wholes" (Mc.top 30) ["_law_rows"] := by trivial
  have T : Mc.Txt w (L2.KOf KX) mg := by
   dsimp only [L2.KOf]
   refine' Mc.aLP KX G ?z_ValueError ?z_bool ?z_int ?z_isinstance ?z_len ?z_range ?z_str ?z_tuple ?s_MOST_BEGINNINGS
   (case z_ValueError => k_is); (case z_bool => k_is); (case z_int => k_is); (case z_isinstance => k_is); (case z_len => k_is); (case z_range => k_is); (case z_str => k_is); (case z_tuple => k_is); (case s_MOST_BEGINNINGS => k_is)
  have Ep_TooMany : ∃ W C, L2.ErrP (L2.KOf KX) mg "TooMany" W C := by
   dsimp only [L2.KOf]
   refine' Mc.aLQ KX G ?m ?e1 ?e2 ?e3 ?e4 ?e5 ?e6 ?e7 ?e8 ?n1 ?n2 ?w1 ?w2 ?w3
   (case m => k_is)
   (case e1 => k_is)
   (case e2 => k_is); (case e3 => k_is); (case e4 => k_is); (case e5 => k_is); (case e6 => k_is); (case e7 => k_is); (case e8 => k_is)
   (case n2 => k_is); (case w1 => k_is); (case w3 => k_is)
   (case n1 => refine' L2.zR ?l ?h; (case l => k_is); (case h => rfl))
   (case w2 => refine' L2.zR ?l ?h; (case l => k_is); (case h => rfl))
  have Up_TooMany : Fl.UpK (L2.KOf KX) mg ["TooMany"] := by
   dsimp only [L2.KOf]
   refine' Mc.aMS KX G ?a ?l ?b ?m ?e1
   (case a => k_is); (case m => k_is); (case l => k_is); (case e1 => k_is); (case b => rfl)
  have U_TooMany := Up_TooMany
  have I_TooMany_NotLike : Fl.Is1 (L2.KOf KX) mg "TooMany" "NotLike" false := by
   dsimp only [L2.KOf]
   refine' Mc.aDQ KX G ?a ?m ?k
   (case a => k_is); (case m => k_is)
   (case k => refine' Mc.aGQ (by decide) ?a ?b ?c; (case a => k_is); (case b => k_is); (case c => k_is))
  have J_TooMany_ValueError : Fl.xG (L2.KOf KX) mg "TooMany" "ValueError" true := by
   dsimp only [L2.KOf]
   refine' Mc.aIJ KX G ?m ?k
   (case m => k_is)
   (case k => refine' Mc.aJI (by decide) (by decide) ?c; (case c => k_is))
  have I_TooMany_TooMany : Fl.Is1 (L2.KOf KX) mg "TooMany" "TooMany" true := by
   dsimp only [L2.KOf]
   refine' Mc.aDQ KX G ?a ?m ?k
   (case a => k_is); (case m => k_is)
   (case k => exact Mc.aD5)
  have LL : ∃ fd, L2.Fun (L2.KOf KX) "law" "law" (Mc.top 31) fa fd /\ ∀ (s : Shared) (u : Value), BindsTo s fd ⟨[u], []⟩ [("_law_script", u)] := by
   dsimp only [L2.KOf]
   refine' Mc.aLR KX G hmg ?a4 ?l4 ?c4 ?k4
   (case a4 => k_is); (case l4 => k_is); (case c4 => k_is); (case k4 => k_is)
  obtain ⟨fd, FL, hb⟩ := LL
  exact ⟨fd, hb, fun base TH _ _ TL => Mc.aII T Ep_TooMany U_TooMany I_TooMany_NotLike J_TooMany_ValueError I_TooMany_TooMany D5 D6 D8 D11 D12 D13 D14 D15 (Fl.aNP D16 KX TL (by decide)) D18 D19 D20 D21 D22 D23 D24 D25 D26 D27 D28 D29 D30 FL⟩
end
