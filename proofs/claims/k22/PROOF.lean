import PyProof.Rows.All
import Wide.All
import OpenK.AllK
import Wide.FinOn
import Lean
import PyProof.EqAt
import PyProof.EqKinds
import PyProof.TupleCall
import PyProof.ExcInit
import PyProof.InstStoreFacts
import PyProof.StrLawsFirst
import PyProof.StrLawsIn
import KE.KLam
import PyProof.ListMulRoad
import PyProof.Rows.ListMul
import PyProof.ZipIter
import PyProof.Draws
import PyProof.ListStr
import PyProof.StrLaws
import PyProof.StrLawsIdx
import PySem.Challenge.RW_striproam_k22_whole_one_way_says_what_wa
set_option linter.all false
set_option maxRecDepth 100000
set_option maxHeartbeats 4000000
set_option Elab.async false
set_option linter.all false
set_option maxRecDepth 100000
set_option genSizeOf false
theorem Mc.bn1 {α : Type} {P : List α -> Prop} (h : ∀ a, P [a]) : ∀ us : List α, us.length = 1 -> P us
 | [a], _ => h a
theorem Mc.bn2 {α : Type} {P : List α -> Prop} (h : ∀ a b, P [a, b]) : ∀ us : List α, us.length = 2 -> P us
 | [a, b], _ => h a b
theorem Mc.bn3 {α : Type} {P : List α -> Prop} (h : ∀ a b c, P [a, b, c]) : ∀ us : List α, us.length = 3 -> P us
 | [a, b, c], _ => h a b c
theorem Mc.bn4 {α : Type} {P : List α -> Prop} (h : ∀ a b c d, P [a, b, c, d]) : ∀ us : List α, us.length = 4 -> P us
 | [a, b, c, d], _ => h a b c d
open PySem.W (Frag)
noncomputable section
namespace L2
open PySem PySem.Spec PyProof.Rows
abbrev Key := Sum Int Str
noncomputable def p7 : Key -> Value -> Bool
 | .inl k, v => Value.isInt k v
 | .inr x, v => Value.isStrOf x v
noncomputable def aNV (w : World) : Key -> Int
 | .inl k => hashInt k
 | .inr x => hashStr w x
theorem keyIs_shape : ∀ {k : Key} {v : Value}, p7 k v = true -> (∃ i t, k = Sum.inl i /\ v = Value.int i t) \/ (∃ x t, k = Sum.inr x /\ v = Value.str x t)
 | .inl i, v, h => by
  obtain ⟨t, e⟩ := Value.isInt_shape (k := i) (v := v) h
  exact .inl ⟨i, t, rfl, e⟩
 | .inr x, v, h => by
  obtain ⟨t, e⟩ := Value.isStrOf_shape (x := x) (v := v) h
  exact .inr ⟨x, t, rfl, e⟩
theorem aCP (i : Int) (t : Tok) : p7 (.inl i) (.int i t) = true := by simp [p7, Value.isInt]
theorem aCQ (x : Str) (t : Tok) : p7 (.inr x) (.str x t) = true := by simp [p7, Value.isStrOf]
theorem aJK (a b : Int) : decide ((Sum.inl a : Key) = Sum.inl b) = (a == b) := by
 by_cases e : a = b
 ·subst e; simp
 ·have h : ¬ (Sum.inl a : Key) = Sum.inl b := fun q => e (Sum.inl.inj q)
  rw [decide_eq_false h]
  exact (beq_eq_false_iff_ne.mpr e).symm
theorem aJL (a b : Str) : decide ((Sum.inr a : Key) = Sum.inr b) = decide (a = b) := by
 by_cases e : a = b
 ·subst e; simp
 ·have h : ¬ (Sum.inr a : Key) = Sum.inr b := fun q => e (Sum.inr.inj q)
  rw [decide_eq_false h, decide_eq_false e]
theorem aJM (a : Int) (b : Str) : decide ((Sum.inl a : Key) = Sum.inr b) = false := decide_eq_false (fun q => nomatch q)
theorem aJN (a : Str) (b : Int) : decide ((Sum.inr a : Key) = Sum.inl b) = false := decide_eq_false (fun q => nomatch q)
noncomputable def dQ (prog : Program) (w : World) : PySem.KeyKind prog w Key where
 is := p7
 hash := aNV w
 inj := fun v a b ha hb => by
  rcases keyIs_shape ha with ⟨i, t, rfl, rfl⟩ | ⟨x, t, rfl, rfl⟩
  ·rcases keyIs_shape hb with ⟨j, u, rfl, e⟩ | ⟨y, u, rfl, e⟩
   · injection e with e1 _; rw [e1]
   · exact nomatch e
  ·rcases keyIs_shape hb with ⟨j, u, rfl, e⟩ | ⟨y, u, rfl, e⟩
   · exact nomatch e
   · injection e with e1 _; rw [e1]
 byValue := fun k v h => by
  rcases keyIs_shape h with ⟨i, t, rfl, rfl⟩ | ⟨x, t, rfl, rfl⟩ <;> rfl
 pyHash := fun hv h => by
  rcases keyIs_shape hv with ⟨i, t, rfl, rfl⟩ | ⟨x, t, rfl, rfl⟩
  ·exact wpAny_pyHash_int h
  ·exact wpAny_pyHash_str h
 eqBool := fun hu hv h => by
  rcases keyIs_shape hu with ⟨i, t, rfl, rfl⟩ | ⟨x, t, rfl, rfl⟩
  ·rcases keyIs_shape hv with ⟨j, u, rfl, rfl⟩ | ⟨y, u, rfl, rfl⟩
   · rw [aJK] at h; exact wpAny_eqBool_int h
   · rw [aJM] at h; exact SeqAt.EqAt.int_str i t y u _ _ _ _ h
  ·rcases keyIs_shape hv with ⟨j, u, rfl, rfl⟩ | ⟨y, u, rfl, rfl⟩
   · rw [aJN] at h; exact SeqAt.EqAt.str_int x t j u _ _ _ _ h
   · rw [aJL] at h; exact wpAny_eqBool_str h
 «strs» := fun k x t v h => by
  rcases keyIs_shape h with ⟨i, u, rfl, e⟩ | ⟨y, u, rfl, e⟩
  ·exact nomatch e
  ·injection e with e1 _
   subst e1
   cases v <;> rfl
theorem zP (prog : Program) (w : World) (i : Int) (t : Tok) : (dQ prog w).is (.inl i) (.int i t) = true := aCP i t
theorem zQ (prog : Program) (w : World) (x : Str) (t : Tok) : (dQ prog w).is (.inr x) (.str x t) = true := aCQ x t
end L2
namespace L2
open PySem PySem.Spec PyProof.Rows
inductive V where
 | non | bl (b : Bool) | int (i : Int) | str (x : Str) | byt (b : Array UInt8) | flt (b : UInt64) | ref (a : Addr) | ty (n : String)
 deriving DecidableEq
def bC : V -> Value -> Prop
 | .non, u => u = Value.none
 | .bl b, u => u = Value.bool b
 | .int i, u => ∃ t, u = Value.int i t
 | .str x, u => ∃ t, u = Value.str x t
 | .byt b, u => ∃ t, u = Value.bytes b t
 | .flt b, u => ∃ t, u = Value.float b t
 | .ref a, u => u = Value.ref a
 | .ty n, u => u = Value.type n
abbrev bN : List V -> List Value -> Prop := Paired bC
theorem bN.length {xs : List V} {us : List Value} (r : bN xs us) : xs.length = us.length := Paired.length r
theorem bN.get : ∀ {xs : List V} {us : List Value} {i : Nat} {x : V}, bN xs us -> xs[i]? = some x -> ∃ u, us[i]? = some u /\ bC x u
 | _, _, _, _, .nil, e => by simp at e
 | _, _, 0, _, .cons r _, e => by simp at e; subst e; exact ⟨_, rfl, r⟩
 | _, _, i + 1, x, .cons _ t, e => by
  obtain ⟨u, h1, h2⟩ := bN.get (i := i) (x := x) t (by simpa using e)
  exact ⟨u, by simpa using h1, h2⟩
theorem bN.append : ∀ {xs ys : List V} {us ws : List Value}, bN xs us -> bN ys ws -> bN (xs ++ ys) (us ++ ws)
 | _, _, _, _, .nil, s => s
 | _, _, _, _, .cons r t, s => .cons r (bN.append t s)
theorem bN.take : ∀ {xs : List V} {us : List Value} (n : Nat), bN xs us -> bN (xs.take n) (us.take n)
 | _, _, 0, _ => .nil
 | _, _, _ + 1, .nil => .nil
 | _, _, n + 1, .cons r t => .cons r (bN.take n t)
theorem bN.drop : ∀ {xs : List V} {us : List Value} (n : Nat), bN xs us -> bN (xs.drop n) (us.drop n)
 | _, _, 0, r => r
 | _, _, _ + 1, .nil => .nil
 | _, _, n + 1, .cons _ t => bN.drop n t
def g8 : Option V -> Option Value -> Prop
 | some v, some u => bC v u
 | none, none => True
 | _, _ => False
def KV {κ : Type} : List (κ × V) -> List (κ × Value) -> Prop := Paired fun (p : κ × V) (q : κ × Value) => p.1 = q.1 /\ bC p.2 q.2
noncomputable def kV : Key -> V
 | .inl i => .int i
 | .inr x => .str x
inductive HO where
 | lst (xs : List V)
 | tup (xs : List V)
 | dK (kvs : List (Key × V)) | dT (kvs : List (List Key × V))
 | set (S : Int -> Bool) (n : Nat)
 | ins (C dx : Addr) (fs : List (Str × V))
 | own (x : Addr)
 | xd (fs : List (Str × V))
 | met (f x : Addr)
 | rng (lo hi : Int)
 | frz (o : Obj) (u : HO)
 | tbl (qs : List (Pos × Str))
 | cod (q : Str)
 | ext (φ : Heap -> Prop)
abbrev Hp := Addr -> Option HO
noncomputable def upd (H : Hp) (a : Addr) (o : HO) : Hp := fun b => if b = a then some o else H b
theorem aW {H : Hp} {a : Addr} {o : HO} : upd H a o a = some o := by unfold upd; rw [if_pos rfl]
theorem aG {H : Hp} {a b : Addr} {o : HO} (h : b ≠ a) : upd H a o b = H b := by unfold upd; rw [if_neg h]
theorem p8 {H : Hp} {a : Addr} {o u : HO} : upd (upd H a o) a u = upd H a u := by
 funext b; unfold upd; split <;> rfl
theorem bG {H : Hp} {a b : Addr} {o : HO} (h : H a = some o) (h' : H b = none) : a ≠ b := by
 intro e; subst e; rw [h] at h'; cases h'
section
variable (P : Program) (w : World)
def cE (H : Hp) (h : Heap) (a : Addr) : HO -> Prop
 | .lst xs => xs.length <= sizeLine /\ ∃ (its : List Value) (n : Nat), bN xs its /\ h.get? a = some { cls := .type "list", data := .seq its.toArray n }
 | .tup xs => xs.length <= sizeLine /\ ∃ its : List Value, bN xs its /\ IsTup h a its.toArray
 | .dK kvs => kvs.length <= sizeLine /\ (a == sysModules) = false /\ ∃ vs, KV kvs vs /\ h.DictOf (dQ P w) a vs
 | .dT kvs => kvs.length <= sizeLine /\ (a == sysModules) = false /\ ∃ xs : List (List Key × Addr × Value),
  Paired (fun (p : List Key × V) (q : List Key × Addr × Value) => p.1 = q.1 /\ H q.2.1 = some (.tup (p.1.map kV)) /\ bC p.2 q.2.2) kvs xs /\
  ∃ o es ep, h.get? a = some o /\ o.ExactDict /\ o.data = .dict es ep /\ es.toList = xs.map (entryOfKey (tupleKind (dQ P w))) /\ (xs.map (·.1)).Nodup
 | .set S n => h.SetOf (intKind P w) a S n
 | .ins C dx fs => H dx = some (.own a) /\ fs.length <= 1000 /\ dx ≠ a /\ h.get? a = some (PySem.W.instObj C dx) /\
  ∃ mA, h.Ns1 dx mA /\ (∀ f, g8 (fs.lookup f) (mA f)) /\ PySem.Within mA (fs.map (·.1))
 | .own _ => ∃ o, h.get? a = some o
 | .xd fs => ∃ mA, h.Ns1 a mA /\ ∀ f, g8 (fs.lookup f) (mA f)
 | .rng lo hi => ∃ t u v, h.get? a = some { cls := .type "range", data := .fields #[.int lo t, .int hi u, .int 1 v] }
 | .frz o u => h.get? a = some o /\ cE H h a u
 | .tbl qs => ∃ ps : Array Value, h.get? a = some { cls := .none, data := .fields ps } /\ TriplesOk ps.toList /\ ∀ p ∈ qs, codeAmong p.1 ps.toList = none \/ ∃ c, codeAmong p.1 ps.toList = some (.ref c) /\ H c = some (.cod p.2)
 | .cod q => h.CodeRec (.ref a) q
 | .met f x => h.get? a = some (PySem.W.methodObj (.ref f) (.ref x))
 | .ext φ => φ h /\ (∃ o, h.get? a = some o) /\ ∀ h1 h2 : Heap, φ h1 -> (∀ o, h1.get? a = some o -> h2.get? a = some o) -> φ h2
def HOk (H : Hp) (h : Heap) : Prop := ∀ a o, H a = some o -> cE P w H h a o
end
section
variable {P : Program} {w : World} {H H' : Hp} {h h' : Heap} {a : Addr} {o : HO}
theorem cE.lt (x : cE P w H h a o) : a < h.objs.size := by
 cases o with
 | lst xs => obtain ⟨_, _, _, _, e⟩ := x; exact Heap.lt_size e
 | tup xs => obtain ⟨_, _, _, p⟩ := x; exact p.lt
 | dK kvs => obtain ⟨_, _, _, _, o, _, _, e, _⟩ := x; exact Heap.lt_size e
 | dT kvs => obtain ⟨_, _, _, _, o, _, _, e, _⟩ := x; exact Heap.lt_size e
 | set S n => obtain ⟨o, _, _, _, e, _⟩ := x; exact Heap.lt_size e
 | ins C dx fs => obtain ⟨_, _, _, e, _⟩ := x; exact Heap.lt_size e
 | own y => obtain ⟨_, e⟩ := x; exact Heap.lt_size e
 | xd fs => obtain ⟨_, ⟨_, _, _, e, _⟩, _⟩ := x; exact Heap.lt_size e
 | rng lo hi => obtain ⟨_, _, _, e⟩ := x; exact Heap.lt_size e
 | frz ob u => obtain ⟨e, _⟩ := x; exact Heap.lt_size e
 | tbl qs => obtain ⟨ps, e, _⟩ := x; exact Heap.lt_size e
 | cod q => obtain ⟨c, o, vs, t, e, ho, _⟩ := x; cases e; exact Heap.lt_size ho
 | met f y => exact Heap.lt_size (show h.get? a = some _ from x)
 | ext φ => obtain ⟨_, ⟨_, e⟩, _⟩ := x; exact Heap.lt_size e
theorem Paired.mapP {α β : Type} {F G : α -> β -> Prop} : ∀ {l₁ : List α} {l₂ : List β}, Paired F l₁ l₂ -> (∀ a b, F a b -> G a b) -> Paired G l₁ l₂
 | _, _, .nil, _ => .nil
 | _, _, .cons r t, f => .cons (f _ _ r) (Paired.mapP t f)
theorem cE.stay (x : cE P w H h a o) (k : ∀ b u, (b = a \/ H b = some (.own a)) -> h.get? b = some u -> h'.get? b = some u)
  (ho : ∀ b, H b = some (.own a) -> H' b = some (.own a)) (hc : ∀ b q, H b = some (.cod q) -> H' b = some (.cod q)) (ht : ∀ b xs, H b = some (.tup xs) -> H' b = some (.tup xs)) : cE P w H' h' a o := by
 induction o with
 | lst xs => obtain ⟨z, its, n, r, e⟩ := x; exact ⟨z, its, n, r, k _ _ (.inl rfl) e⟩
 | tup xs => obtain ⟨z, its, r, ob, e, c⟩ := x; exact ⟨z, its, r, ob, k _ _ (.inl rfl) e, c⟩
 | dK kvs => obtain ⟨z, y, vs, r, ob, es, ep, e, c⟩ := x; exact ⟨z, y, vs, r, ob, es, ep, k _ _ (.inl rfl) e, c⟩
 | dT kvs =>
  obtain ⟨z, y, xs, r, ob, es, ep, e, c⟩ := x
  exact ⟨z, y, xs, Paired.mapP r fun p q z => ⟨z.1, ht _ _ z.2.1, z.2.2⟩, ob, es, ep, k _ _ (.inl rfl) e, c⟩
 | set S n => obtain ⟨ob, es, ep, t, e, c⟩ := x; exact ⟨ob, es, ep, t, k _ _ (.inl rfl) e, c⟩
 | ins C dx fs =>
  obtain ⟨d, z, ne, e, mA, ⟨od, es, ep, e2, c⟩, r⟩ := x
  exact ⟨ho _ d, z, ne, k _ _ (.inl rfl) e, mA, ⟨od, es, ep, k _ _ (.inr d) e2, c⟩, r⟩
 | own y => obtain ⟨ob, e⟩ := x; exact ⟨ob, k _ _ (.inl rfl) e⟩
 | xd fs => obtain ⟨mA, ⟨od, es, ep, e, c⟩, r⟩ := x; exact ⟨mA, ⟨od, es, ep, k _ _ (.inl rfl) e, c⟩, r⟩
 | rng lo hi => obtain ⟨t, u, v, e⟩ := x; exact ⟨t, u, v, k _ _ (.inl rfl) e⟩
 | frz ob u ih => obtain ⟨e, q⟩ := x; exact ⟨k _ _ (.inl rfl) e, ih q⟩
 | tbl qs =>
  obtain ⟨ps, e, t, r⟩ := x
  refine ⟨ps, k _ _ (.inl rfl) e, t, fun p hp => ?_⟩
  rcases r p hp with z | ⟨c, z, z2⟩
  · exact .inl z
  · exact .inr ⟨c, z, hc _ _ z2⟩
 | cod q =>
  obtain ⟨c, o, vs, t, e, ho, r⟩ := x
  cases e
  exact ⟨_, o, vs, t, rfl, k _ _ (.inl rfl) ho, r⟩
 | met f y =>
  have e : h.get? a = some (PySem.W.methodObj (.ref f) (.ref y)) := x
  show h'.get? a = some (PySem.W.methodObj (.ref f) (.ref y))
  exact k a _ (.inl rfl) e
 | ext φ => obtain ⟨p, ⟨o, e⟩, st⟩ := x; exact ⟨st _ _ p fun o q => k _ _ (.inl rfl) q, ⟨o, k _ _ (.inl rfl) e⟩, st⟩
theorem HOk.lt (x : HOk P w H h) (e : H a = some o) : a < h.objs.size := (x a o e).lt
theorem HOk.fresh (x : HOk P w H h) (e : h.objs.size <= a) : H a = none := by
 cases q : H a with
 | none => rfl
 | some u => exact absurd (Nat.lt_of_lt_of_le (x.lt q) e) (Nat.lt_irrefl _)
theorem HOk.kept (x : HOk P w H h) (k : ∀ b u, h.get? b = some u -> h'.get? b = some u) : HOk P w H h' := fun a o e =>
 (x a o e).stay (fun b u _ q => k b u q) (fun _ q => q) (fun _ _ q => q) fun _ _ q => q
theorem HOk.laid (x : HOk P w H h) (k : ∀ b u, h.get? b = some u -> h'.get? b = some u) (hp : h.objs.size <= a) (new : cE P w (upd H a o) h' a o) : HOk P w (upd H a o) h' := fun b u e => by
 have hn := x.fresh hp
 by_cases hb : b = a
 ·subst hb; rw [aW] at e; cases e; exact new
 ·rw [aG hb] at e
  exact (x b u e).stay (fun c v _ q => k c v q) (fun c q => by rw [aG (bG q hn)]; exact q) (fun c xs q => by rw [aG (bG q hn)]; exact q) fun c xs q => by rw [aG (bG q hn)]; exact q
end
def Rd (H : Hp) (a : Addr) (u : HO) : Prop := H a = some u \/ ∃ o, H a = some (.frz o u)
theorem Rd.ok {P : Program} {w : World} {H : Hp} {h : Heap} {a : Addr} {u : HO} (r : Rd H a u) (x : HOk P w H h) : cE P w H h a u := by
 rcases r with r | ⟨o, r⟩
 ·exact x a u r
 ·obtain ⟨_, q⟩ := x a _ r
  exact q
def Mut : Option HO -> Prop
 | some (.lst _) => True
 | some (.dK _) => True
 | some (.dT _) => True
 | some (.set _ _) => True
 | some (.ins _ _ _) => True
 | some (.ext _) => True
 | _ => False
section
variable {P : Program} {w : World} {H : Hp} {h h' : Heap} {x e : Addr} {o' : HO}
theorem HOk.write (ok : HOk P w H h) (mu : Mut (H x)) (he : e = x \/ H e = some (.own x)) (k : ∀ b u, b ≠ e -> h.get? b = some u -> h'.get? b = some u) (heo : ∃ u, h'.get? e = some u)
  (new : cE P w (upd H x o') h' x o') : HOk P w (upd H x o') h' := fun b u q => by
 have nown : ∀ c y, H c = some (.own y) -> c ≠ x := fun c y r z => by subst z; rw [r] at mu; exact mu
 have ntup : ∀ c xs, H c = some (.tup xs) -> c ≠ x := fun c xs r z => by subst z; rw [r] at mu; exact mu
 have ncod : ∀ c xs, H c = some (.cod xs) -> c ≠ x := fun c xs r z => by subst z; rw [r] at mu; exact mu
 by_cases hb : b = x
 ·subst hb; rw [aW] at q; cases q; exact new
 ·rw [aG hb] at q
  by_cases hbe : b = e
  ·have q' : H b = some (.own x) := by
    rcases he with z | z
    · exact absurd (hbe.trans z) hb
    · rw [hbe]; exact z
   rw [q] at q'; cases q'
   obtain ⟨v, hv⟩ := heo
   exact ⟨v, by rw [hbe]; exact hv⟩
  ·refine (ok b u q).stay (fun c v hc r => k c v ?_ r) (fun c r => by rw [aG (nown c b r)]; exact r) (fun c xs r => by rw [aG (ncod c xs r)]; exact r) fun c xs r => by rw [aG (ntup c xs r)]; exact r
   rcases hc with rfl | hc
   ·exact hbe
   ·rintro rfl
    rcases he with z | z
    · exact nown c b hc z
    · rw [hc] at z; cases z; exact hb rfl
end
structure Un (fs ex : List Addr) (H H' : Hp) (h h' : Heap) : Prop where
 keep : ∀ b o, h.get? b = some o -> H b = none -> b ∉ fs -> b ∉ ex -> h'.get? b = some o
 slot : ∀ b o, h.get? b = some o -> H b = none -> b ∈ fs -> b ∉ ex -> ∃ sl, h'.get? b = some { o with slots := sl }
 free : ∀ b o, h.get? b = some o -> H b = none -> b ∉ ex -> H' b = none
 there : ∀ b o, h.get? b = some o -> b ∉ ex -> ∃ o', h'.get? b = some o'
 tups : ∀ b xs, H b = some (.tup xs) -> H' b = some (.tup xs)
 frzs : ∀ b o u, H b = some (.frz o u) -> H' b = some (.frz o u)
 tbls : ∀ b ps, H b = some (.tbl ps) -> H' b = some (.tbl ps)
section
variable {fs fs' ex ex' : List Addr} {H H1 H2 : Hp} {h h1 h2 h' : Heap} {a x e : Addr} {o : HO}
theorem Un.any (u : Un fs ex H H1 h h1) {b : Addr} {ob : Obj} (q : h.get? b = some ob) (n : H b = none) (hx : b ∉ ex) : ∃ sl, h1.get? b = some { ob with slots := sl } := by
 by_cases hb : b ∈ fs
 · exact u.slot b ob q n hb hx
 · exact ⟨ob.slots, u.keep b ob q n hb hx⟩
theorem Un.kept (k : ∀ b u, h.get? b = some u -> h'.get? b = some u) : Un fs ex H H h h' :=
 ⟨fun b ob q _ _ _ => k b ob q, fun b ob q _ _ _ => ⟨ob.slots, k b ob q⟩, fun _ _ _ n _ => n, fun b ob q _ => ⟨ob, k b ob q⟩, fun _ _ q => q, fun _ _ _ q => q, fun _ _ q => q⟩
theorem Un.refl : Un fs ex H H h h := Un.kept fun _ _ q => q
theorem Un.laid (k : ∀ b u, h.get? b = some u -> h'.get? b = some u) (hp : h.objs.size <= a) (hn : H a = none) : Un fs ex H (upd H a o) h h' where
 keep := fun b u q _ _ _ => k b u q
 slot := fun b u q _ _ _ => ⟨u.slots, k b u q⟩
 free := fun b u q n _ => by rw [aG (Nat.ne_of_lt (Nat.lt_of_lt_of_le (Heap.lt_size q) hp))]; exact n
 there := fun b u q _ => ⟨u, k b u q⟩
 tups := fun b xs q => by rw [aG (bG q hn)]; exact q
 frzs := fun b u xs q => by rw [aG (bG q hn)]; exact q
 tbls := fun b ps q => by rw [aG (bG q hn)]; exact q
theorem Un.write (mu : Mut (H x)) (he : e = x \/ H e = some (.own x)) (k : ∀ b u, b ≠ e -> h.get? b = some u -> h'.get? b = some u) (heo : ∃ u, h'.get? e = some u) : Un fs ex H (upd H x o) h h' := by
 have hx : ∀ b, H b = none -> b ≠ x := fun b n z => by subst z; rw [n] at mu; exact mu
 have hb : ∀ b, H b = none -> b ≠ e := fun b n z => by
  subst z
  rcases he with r | r
  · exact hx b n r
  · rw [n] at r; cases r
 have hm : ∀ b u, H b = some u -> ¬ Mut (some u) -> b ≠ x := fun b u q nm z => by subst z; rw [q] at mu; exact nm mu
 refine ⟨fun b u q n _ _ => k b u (hb b n) q, fun b u q n _ _ => ⟨u.slots, k b u (hb b n) q⟩, fun b u q n _ => by rw [aG (hx b n)]; exact n, fun b u q _ => ?_,
  fun b xs q => by rw [aG (hm b _ q fun z => z)]; exact q, fun b u xs q => by rw [aG (hm b _ q fun z => z)]; exact q, fun b ps q => by rw [aG (hm b _ q fun z => z)]; exact q⟩
 by_cases hbe : b = e
 ·subst hbe; exact heo
 ·exact ⟨u, k b u hbe q⟩
end
noncomputable def trk (h : Heap) (H : Hp) : List Addr := (List.range h.objs.size).filter fun a => (H a).isSome
def mX (h : Heap) (H : Hp) : Heap := PySem.W.hideAll h (trk h H)
theorem aCR (h : Heap) (H : Hp) : (mX h H).objs.size = h.objs.size := PySem.W.hideAll_size _ _
theorem aER {h : Heap} {H : Hp} {b : Addr} {o : Obj} (e : h.get? b = some o) (n : H b = none) : (mX h H).get? b = some o :=
 PySem.W.hideAll_get _ e fun hm => by
  have q : (H b).isSome = true := (List.mem_filter.mp hm).2
  rw [n] at q; simp at q
theorem aG4 {h : Heap} {H : Hp} {b : Addr} {o : Obj} (e : (mX h H).get? b = some o) : h.get? b = some o /\ H b = none := by
 have e' : h.get? b = some o := PySem.W.of_hideAll (trk h H) e
 refine ⟨e', ?_⟩
 cases q : H b with
 | none => rfl
 | some x =>
  have hm : b ∈ trk h H := List.mem_filter.mpr ⟨List.mem_range.mpr (Heap.lt_size e'), by simp [q]⟩
  have z : (mX h H).get? b = none := PySem.W.hideAll_none (trk h H) hm
  rw [z] at e; cases e
def aG5 (g h : Heap) (L : Addr) : List (Addr × Obj) := (List.range h.objs.size).filterMap fun a => if a = L \/ (g.get? a).isSome = true then none else (h.get? a).map fun o => (a, o)
def rest (g h : Heap) (L d : Addr) : List (Addr × Obj) := (aG5 g h L).filter fun p => decide (p.1 ≠ d)
end L2
namespace L2
open PySem PySem.Spec PyProof.Rows
structure Mod (K : Frag) (mg : Str -> Option Value) (base : Heap) : Prop where
 kin : K.In base
 glob : base.Ns mainGlobals mg
 blt : ∃ mb, base.Ns builtinsNs mb /\ ∀ x : Str, x ≠ "__name__" -> mb x = bootBuiltins x
 nolimit : base.NoLimit
structure Cx where
 prog : Program
 w : World
 K : Frag
 mg : Str -> Option Value
 base : Heap
 A : Around
 N : List Str
 s₀ : Shared
 H₀ : Hp
 env : Env
 outer : List Env
 stack : List Env
 ex : List Addr
 fn : Str -> Bool
 calm : Bool
 pn : List (Addr × Obj)
 xe : Value -> Shared -> Prop
noncomputable def frs (l : List Env) : List Addr := l.filterMap (·.frame)
abbrev Cx.fs (X : Cx) : List Addr := frs X.outer
def Vis (sc : Scope) (x : Str) : Prop := sc.names.lookup x = some .local \/ sc.names.lookup x = some .cell \/ sc.names.lookup x = some .free
noncomputable def aJO (sc : Scope) (x : Str) : Bool := match sc.names.lookup x with
 | some .local => true
 | some .cell => true
 | some .free => true
 | _ => false
theorem aJP {sc : Scope} {x : Str} (h : aJO sc x = true) : Vis sc x := by
 unfold aJO at h
 unfold Vis
 split at h
 · rename_i e; exact .inl e
 · rename_i e; exact .inr (.inl e)
 · rename_i e; exact .inr (.inr e)
 · cases h
def Loc (sc : Scope) (x : Str) : Prop := sc.names.lookup x = some .local \/ sc.names.lookup x = some .cell
def aNW (env : Env) (h : Heap) (m : Str -> Option Value) (x : Str) (u : Value) : Prop :=
 (env.kindOf x = some .local /\ m x = some u) \/ ((env.kindOf x = some .cell \/ env.kindOf x = some .free) /\ ∃ c, env.cells.lookup x = some c /\ h.IsCell c (some u))
structure Cx.Ok (X : Cx) : Prop where
 mod : Mod X.K X.mg X.base
 kind : X.env.scope.kind = .function
 glob : X.env.globals = mainGlobals
 blt : X.env.builtins = builtinsNs
 above : X.s₀.heap.objs.size <= X.env.locals
 inj : ∀ x y c, X.env.cells.lookup x = some c -> X.env.cells.lookup y = some c -> x = y
 has : ∀ x, (X.env.kindOf x = some .cell \/ X.env.kindOf x = some .free) -> ∃ c, X.env.cells.lookup x = some c
 cab : ∀ x c, X.fn x = true -> X.env.cells.lookup x = some c -> X.s₀.heap.objs.size <= c
 hd : X.calm = true -> X.A.handled = none
 frames : X.A.frames = some X.stack
 stk : X.stack = X.outer \/ (X.stack = X.env :: X.outer /\ X.env.frame = some X.env.locals)
 exf : ∀ b ∈ X.ex, b ≠ X.env.locals /\ ∀ x c, X.env.cells.lookup x = some c -> c ≠ b
 bs : ∀ b o, X.base.get? b = some o -> X.s₀.heap.get? b = some o /\ X.H₀ b = none
 bsz : X.base.objs.size <= X.s₀.heap.objs.size
 noex : ∀ b o, X.base.get? b = some o -> b ∉ X.ex
 exfs : ∀ b ∈ X.ex, b ∉ X.fs
 funs : X.s₀.heap.FunFrames X.base X.outer
 frf : ∀ b ∈ X.fs, X.H₀ b = none
structure Inv (X : Cx) (pins : List (Addr × Obj)) (σ : List (Option V)) (H : Hp) (s : Shared) : Prop where
 ok : X.Ok
 os : s.os = X.s₀.os
 bare : AllBare s.gens
 base : Un X.fs X.ex X.H₀ H X.s₀.heap s.heap
 loc : ∃ m, s.heap.Ns X.env.locals m /\ ∀ (i : Nat) (x : Str) (v : V), X.N[i]? = some x -> σ[i]? = some (some v) -> Vis X.env.scope x -> ∃ u, bC v u /\ aNW X.env s.heap m x u
 cell : ∀ x c, X.env.cells.lookup x = some c -> ∃ v, s.heap.IsCell c v
 free : H X.env.locals = none
 freeC : ∀ x c, X.env.cells.lookup x = some c -> H c = none
 pin : ∀ p ∈ X.pn ++ pins, s.heap.get? p.1 = some p.2 /\ H p.1 = none /\ p.1 ≠ X.env.locals /\ p.1 ∉ X.fs /\ ∀ v, p.2.data ≠ .cell v
 hok : HOk X.prog X.w H s.heap
 len : σ.length = X.N.length
section
variable {X : Cx} {pins : List (Addr × Obj)} {σ : List (Option V)} {H H' : Hp} {s : Shared} {h' : Heap}
theorem Cx.Ok.nofr (ok : X.Ok) {b : Addr} {o : Obj} (e : X.base.get? b = some o) : b ∉ X.fs := fun hb => by
 have := (ok.funs.mem hb).1
 rw [e] at this; cases this
theorem Inv.bs (I : Inv X pins σ H s) : ∀ b o, X.base.get? b = some o -> s.heap.get? b = some o /\ H b = none := fun b o e =>
 ⟨I.base.keep b o (I.ok.bs b o e).1 (I.ok.bs b o e).2 (I.ok.nofr e) (I.ok.noex b o e), I.base.free b o (I.ok.bs b o e).1 (I.ok.bs b o e).2 (I.ok.noex b o e)⟩
theorem Inv.bk (I : Inv X pins σ H s) : ∀ b o, X.base.get? b = some o -> s.heap.get? b = some o := fun b o e => (I.bs b o e).1
theorem Inv.mod (I : Inv X pins σ H s) : Mod X.K X.mg X.base := I.ok.mod
theorem Inv.kIn (I : Inv X pins σ H s) : X.K.In s.heap := I.ok.mod.kin.keeps I.bk
theorem Inv.lt (I : Inv X pins σ H s) : X.env.locals < s.heap.objs.size := let ⟨_, hn, _⟩ := I.loc; hn.lt
theorem Inv.sz (I : Inv X pins σ H s) : X.s₀.heap.objs.size <= s.heap.objs.size := Nat.le_trans I.ok.above (Nat.le_of_lt I.lt)
theorem Inv.nofs (I : Inv X pins σ H s) {a : Addr} (h : s.heap.objs.size <= a) : a ∉ X.fs := fun hb => by
 obtain ⟨_, o, ho, _⟩ := I.ok.funs.mem hb
 exact absurd (Nat.lt_of_lt_of_le (Heap.lt_size ho) (Nat.le_trans I.sz h)) (Nat.lt_irrefl _)
theorem Inv.cne (I : Inv X pins σ H s) : ∀ x c, X.env.cells.lookup x = some c -> c ≠ X.env.locals := fun x c e z => by
 obtain ⟨v, o, ho, hd⟩ := I.cell x c e
 obtain ⟨m, ⟨o', es, ep, ho', hd', _⟩, _⟩ := I.loc
 rw [z, ho'] at ho; cases ho; rw [hd'] at hd; cases hd
theorem Inv.funs (I : Inv X pins σ H s) : s.heap.FunFrames X.base X.outer := by
 have all : ∀ (l : List Env), (∀ b ∈ frs l, b ∈ X.fs) -> X.s₀.heap.FunFrames X.base l -> s.heap.FunFrames X.base l := by
  intro l
  induction l with
  | nil => intro _ _; trivial
  | cons env r ih =>
   intro hs hl
   obtain ⟨hk, ⟨L, o, hf, hn, ho, hd⟩, hr⟩ := hl
   have hL : L ∈ X.fs := hs L (by unfold frs; rw [List.filterMap_cons, hf]; exact List.mem_cons_self)
   obtain ⟨sl, e⟩ := I.base.slot L o ho (I.ok.frf L hL) hL fun z => I.ok.exfs L z hL
   exact ⟨hk, ⟨L, _, hf, hn, e, hd⟩, ih (fun b hb => hs b (by unfold frs; rw [List.filterMap_cons, hf]; exact List.mem_cons_of_mem _ hb)) hr⟩
 exact all X.outer (fun _ hb => hb) I.ok.funs
theorem Inv.stack (I : Inv X pins σ H s) : s.heap.FunFrames X.base X.stack := by
 rcases I.ok.stk with e | ⟨e, hf⟩
 ·rw [e]; exact I.funs
 ·rw [e]
  obtain ⟨m, hn, _⟩ := I.loc
  refine .cons (by rw [I.ok.kind]; decide) hf hn ?_ I.funs
  exact Heap.get?_none_of_le (Nat.le_trans I.ok.bsz I.ok.above)
theorem Inv.stkSub (I : Inv X pins σ H s) : ∀ b ∈ frs X.stack, b ∈ X.env.locals :: X.fs := fun b hb => by
 rcases I.ok.stk with e | ⟨e, hf⟩
 ·rw [e] at hb; exact List.mem_cons_of_mem _ hb
 ·rw [e] at hb
  unfold frs at hb
  rw [List.filterMap_cons, hf] at hb
  exact hb
theorem Inv.stkFree (I : Inv X pins σ H s) : ∀ b ∈ frs X.stack, H b = none := fun b hb => by
 rcases List.mem_cons.mp (I.stkSub b hb) with e | hb
 ·rw [e]; exact I.free
 ·obtain ⟨_, o, ho, _⟩ := I.ok.funs.mem hb
  exact I.base.free b o ho (I.ok.frf b hb) fun z => I.ok.exfs b z hb
theorem Inv.step {g' : Array GenState} {t' : Nat} {d' : Drawn} {ch : List Addr} (I : Inv X pins σ H s)
  (hch : ∀ b ∈ ch, (b ∈ X.ex \/ X.s₀.heap.objs.size <= b) /\ b ≠ X.env.locals /\ (∀ x c, X.env.cells.lookup x = some c -> c ≠ b) /\ ∀ p ∈ X.pn ++ pins, p.1 ≠ b)
  (keep : ∀ b o, b ≠ X.env.locals -> b ∉ X.fs -> b ∉ ch -> s.heap.get? b = some o -> H b = none -> h'.get? b = some o)
  (slot : ∀ b o, b ≠ X.env.locals -> b ∈ X.fs -> b ∉ ch -> s.heap.get? b = some o -> H b = none -> ∃ sl, h'.get? b = some { o with slots := sl }) (free : ∀ b o, b ∉ ch -> s.heap.get? b = some o -> H b = none -> H' b = none)
  (there : ∀ b o, b ∉ ch -> s.heap.get? b = some o -> ∃ o', h'.get? b = some o')
  (tups : ∀ b xs, H b = some (.tup xs) -> H' b = some (.tup xs)) (frzs : ∀ b o u, H b = some (.frz o u) -> H' b = some (.frz o u)) (tbls : ∀ b ps, H b = some (.tbl ps) -> H' b = some (.tbl ps))
  (ns : ∀ m, s.heap.Ns X.env.locals m -> h'.Ns X.env.locals m) (hok : HOk X.prog X.w H' h') (hg : AllBare g') :
  Inv X pins σ H' { s with heap := h', gens := g', drawn := d', toks := t' } := by
 have neL : ∀ b o, X.s₀.heap.get? b = some o -> b ≠ X.env.locals := fun b o e => Nat.ne_of_lt (Nat.lt_of_lt_of_le (Heap.lt_size e) I.ok.above)
 have neC : ∀ b o, X.s₀.heap.get? b = some o -> b ∉ X.ex -> b ∉ ch := fun b o e hx hb => by
  rcases (hch b hb).1 with z | z
  ·exact hx z
  ·exact absurd (Nat.lt_of_lt_of_le (Heap.lt_size e) z) (Nat.lt_irrefl _)
 have cellK : ∀ x c, X.env.cells.lookup x = some c -> ∀ v, s.heap.IsCell c v -> h'.IsCell c v := fun x c e v zz0 => by
  obtain ⟨o, ho, hd⟩ := zz0
  have nch : c ∉ ch := fun z => (hch c z).2.2.1 x c e rfl
  by_cases hc : c ∈ X.fs
  ·obtain ⟨sl, q⟩ := slot c o (I.cne x c e) hc nch ho (I.freeC x c e)
   exact ⟨_, q, hd⟩
  ·exact ⟨o, keep c o (I.cne x c e) hc nch ho (I.freeC x c e), hd⟩
 refine ⟨I.ok, I.os, hg, ⟨fun b o e n hb hx => ?_, fun b o e n hb hx => ?_, fun b o e n hx => ?_, fun b o e hx => ?_, fun b xs e => tups b xs (I.base.tups b xs e), fun b o xs e => frzs b o xs (I.base.frzs b o xs e), fun b ps e => ?_⟩, ?_, fun x c e => ?_, ?_, fun x c e => ?_, fun p hp => ?_, hok, I.len⟩
 ·exact keep b o (neL b o e) hb (neC b o e hx) (I.base.keep b o e n hb hx) (I.base.free b o e n hx)
 ·obtain ⟨sl, e1⟩ := I.base.slot b o e n hb hx
  obtain ⟨sl', e2⟩ := slot b _ (neL b o e) hb (neC b o e hx) e1 (I.base.free b o e n hx)
  exact ⟨sl', e2⟩
 ·obtain ⟨o', e1⟩ := I.base.there b o e hx
  exact free b o' (neC b o e hx) e1 (I.base.free b o e n hx)
 ·obtain ⟨o', e1⟩ := I.base.there b o e hx
  exact there b o' (neC b o e hx) e1
 ·exact tbls b ps (I.base.tbls b ps e)
 ·obtain ⟨m, hn, hl⟩ := I.loc
  refine ⟨m, ns m hn, fun i x v e1 e2 e3 => ?_⟩
  obtain ⟨u, r, l⟩ := hl i x v e1 e2 e3
  refine ⟨u, r, ?_⟩
  rcases l with l | ⟨k, c, e, z⟩
  ·exact .inl l
  ·exact .inr ⟨k, c, e, cellK x c e _ z⟩
 ·obtain ⟨v, z⟩ := I.cell x c e
  exact ⟨v, cellK x c e v z⟩
 ·obtain ⟨m, ⟨o, _, _, ho, _⟩, _⟩ := I.loc
  exact free _ o (fun z => (hch _ z).2.1 rfl) ho I.free
 ·obtain ⟨v, o, ho, hd⟩ := I.cell x c e
  exact free c o (fun z => (hch c z).2.2.1 x c e rfl) ho (I.freeC x c e)
 ·obtain ⟨e, n, ne, nf, d⟩ := I.pin p hp
  have nch : p.1 ∉ ch := fun z => (hch p.1 z).2.2.2 p hp rfl
  exact ⟨keep p.1 p.2 ne nf nch e n, free p.1 p.2 nch e n, ne, nf, d⟩
theorem Inv.un {t' : Nat} (I : Inv X pins σ H s) (u : Un X.fs [] H H' s.heap h') (hok : HOk X.prog X.w H' h') : Inv X pins σ H' { s with heap := h', toks := t' } := by
 obtain ⟨m, ⟨o, es, ep, ho, r⟩, _⟩ := id I.loc
 obtain ⟨sl, hL⟩ := u.any ho I.free (by simp)
 exact I.step (g' := s.gens) (d' := s.drawn) (ch := []) (fun _ z => nomatch z) (fun b o _ hb _ e n => u.keep b o e n hb (by simp)) (fun b o _ hb _ e n => u.slot b o e n hb (by simp)) (fun b o _ e n => u.free b o e n (by simp)) (fun b o _ e => u.there b o e (by simp)) u.tups u.frzs u.tbls (fun m' hm => by
  obtain ⟨o', es', ep', ho', r'⟩ := hm
  rw [ho] at ho'; cases ho'
  exact ⟨_, es', ep', hL, r'⟩) hok I.bare
theorem Inv.call {g' : Array GenState} {t' : Nat} {d' : Drawn} {ch : List Addr} (I : Inv X pins σ H s) (u : Un (frs X.stack) ch H H' s.heap h') (hok : HOk X.prog X.w H' h') (hg : AllBare g')
  (hch : ∀ b ∈ ch, (b ∈ X.ex \/ X.s₀.heap.objs.size <= b) /\ b ≠ X.env.locals /\ (∀ x c, X.env.cells.lookup x = some c -> c ≠ b) /\ ∀ p ∈ X.pn ++ pins, p.1 ≠ b) :
  Inv X pins σ H' { s with heap := h', gens := g', drawn := d', toks := t' } := by
 obtain ⟨m, ⟨o, es, ep, ho, r⟩, _⟩ := id I.loc
 obtain ⟨sl, hL⟩ := u.any ho I.free fun z => (hch _ z).2.1 rfl
 exact I.step (ch := ch) hch (fun b o hL hb hc e n => u.keep b o e n (fun z => (List.mem_cons.mp (I.stkSub b z)).elim hL hb) hc) (fun b o _ _ hc e n => u.any e n hc) (fun b o hc e n => u.free b o e n hc) (fun b o hc e => u.there b o e hc) u.tups u.frzs u.tbls (fun m' hm => by
  obtain ⟨o', es', ep', ho', r'⟩ := hm
  rw [ho] at ho'; cases ho'
  exact ⟨_, es', ep', hL, r'⟩) hok hg
theorem Inv.turned {t' : Nat} {it : Addr} (I : Inv X pins σ H s) (k : ∀ b o, b ≠ it -> s.heap.get? b = some o -> h'.get? b = some o) (hn : H it = none) (hL : it ≠ X.env.locals)
  (h1 : it ∈ X.ex \/ X.s₀.heap.objs.size <= it) (h2 : ∀ x c, X.env.cells.lookup x = some c -> c ≠ it) (h3 : ∀ p ∈ X.pn ++ pins, p.1 ≠ it) : Inv X pins σ H { s with heap := h', toks := t' } := by
 have nit : ∀ b u, H b = some u -> b ≠ it := fun b u e z => by rw [z, hn] at e; cases e
 refine I.step (g' := s.gens) (d' := s.drawn) (ch := [it]) (fun b hb => ?_) (fun b o _ _ hc e _ => k b o (fun z => hc (by simp [z])) e) (fun b o _ _ hc e _ => ⟨o.slots, k b o (fun z => hc (by simp [z])) e⟩) (fun _ _ _ _ n => n)
  (fun b o hc e => ⟨o, k b o (fun z => hc (by simp [z])) e⟩) (fun _ _ e => e) (fun _ _ _ e => e) (fun _ _ e => e) (fun m hm => ?_) (fun b u e => ?_) I.bare
 ·have e : b = it := by simpa using hb
  subst e
  exact ⟨h1, hL, h2, h3⟩
 ·obtain ⟨o, es, ep, ho, r⟩ := hm
  exact ⟨o, es, ep, k _ o (Ne.symm hL) ho, r⟩
 ·refine (I.hok b u e).stay (fun c v hc q => k c v ?_ q) (fun _ q => q) (fun _ _ q => q) fun _ _ q => q
  rcases hc with z | z
  · rw [z]; exact nit b u e
  · exact nit c _ z
theorem Inv.tok (I : Inv X pins σ H s) (t : Nat) : Inv X pins σ H { s with toks := t } := I.un (h' := s.heap) (t' := t) Un.refl I.hok
theorem Inv.kept {t' : Nat} (I : Inv X pins σ H s) (k : ∀ b u, s.heap.get? b = some u -> h'.get? b = some u) : Inv X pins σ H { s with heap := h', toks := t' } := I.un (Un.kept k) (I.hok.kept k)
theorem Inv.laid {a : Addr} {o : HO} {t' : Nat} (I : Inv X pins σ H s) (k : ∀ b u, s.heap.get? b = some u -> h'.get? b = some u) (hp : s.heap.objs.size <= a) (new : cE X.prog X.w (upd H a o) h' a o) :
 Inv X pins σ (upd H a o) { s with heap := h', toks := t' } := I.un (Un.laid k hp (I.hok.fresh hp)) (I.hok.laid k hp new)
theorem Inv.write {x e : Addr} {o : HO} {t' : Nat} (I : Inv X pins σ H s) (mu : Mut (H x)) (he : e = x \/ H e = some (.own x)) (k : ∀ b u, b ≠ e -> s.heap.get? b = some u -> h'.get? b = some u) (heo : ∃ u, h'.get? e = some u)
 (new : cE X.prog X.w (upd H x o) h' x o) : Inv X pins σ (upd H x o) { s with heap := h', toks := t' } := I.un (Un.write mu he k heo) (I.hok.write mu he k heo new)
theorem Inv.pins_of {pins' : List (Addr × Obj)} (I : Inv X pins σ H s) (h : ∀ p ∈ pins', s.heap.get? p.1 = some p.2 /\ H p.1 = none /\ p.1 ≠ X.env.locals /\ p.1 ∉ X.fs /\ ∀ v, p.2.data ≠ .cell v) : Inv X pins' σ H s :=
 ⟨I.ok, I.os, I.bare, I.base, I.loc, I.cell, I.free, I.freeC, fun p hp => (List.mem_append.mp hp).elim (fun z => I.pin p (List.mem_append_left _ z)) (h p), I.hok, I.len⟩
theorem rM {N : List Str} (hN : N.Nodup) {i j : Nat} {x : Str} (a : N[i]? = some x) (b : N[j]? = some x) : i = j := by
 obtain ⟨h1, e1⟩ := List.getElem?_eq_some_iff.mp a
 obtain ⟨h2, e2⟩ := List.getElem?_eq_some_iff.mp b
 exact (List.getElem_inj hN).mp (e1.trans e2.symm)
theorem vP {M : Model} {A : Around} {E : Value -> Shared -> Prop} {i : Nat} {x : Str} {v : V} {u : Value} {Q : Unit -> Shared -> Prop} (I : Inv X pins σ H s) (hN : X.N.Nodup) (hi : X.N[i]? = some x) (hx : Loc X.env.scope x) (r : bC v u)
  (h : ∀ s', Inv X pins (σ.set i (some v)) H s' -> (∃ a, Heap.SameBut a s.heap s'.heap /\ (a = X.env.locals \/ X.env.cells.lookup x = some a)) -> Q () s') (hf : X.fn x = true \/ X.env.scope.names.lookup x = some .local) : wpAny M A (storeName X.env x u) Q E s := by
 obtain ⟨m, hn, hl⟩ := id I.loc
 have hcls : (X.env.scope.kind == .class || (X.env.scope.kind == .module && X.env.locals != X.env.globals)) = false := by rw [I.ok.kind]; rfl
 have hiσ : i < σ.length := by rw [I.len]; exact (List.getElem?_eq_some_iff.mp hi).1
 have cne := I.cne
 have tracked : ∀ {a : Addr} {h' : Heap}, (∃ o, s.heap.get? a = some o /\ H a = none) -> Heap.SameBut a s.heap h' -> HOk X.prog X.w H h' := fun {a h'} ha hs b ob e => by
  obtain ⟨_, _, hfree⟩ := ha
  refine (I.hok b ob e).stay (fun c w' hc q => (hs.2 c ?_).trans q) (fun _ q => q) (fun _ _ q => q) fun _ _ q => q
  rintro rfl
  rcases hc with rfl | hc
  ·rw [hfree] at e; cases e
  ·rw [hfree] at hc; cases hc
 rcases hx with hk | hk
 ·refine wpAny_storeName_local hk hn (fun h' hn' hs => ?_) hcls
  obtain ⟨oL, _, _, hoL, _⟩ := id hn
  refine h _ ⟨I.ok, I.os, I.bare, ⟨fun b o e n hb hx => ?_, fun b o e n hb hx => ?_, I.base.free, fun b o e hx => ?_, I.base.tups, I.base.frzs, I.base.tbls⟩, ⟨_, hn', fun j y v' e1 e2 e3 => ?_⟩, fun y c e => ?_, I.free, I.freeC, fun p hp => ?_, tracked ⟨oL, hoL, I.free⟩ hs, by simpa using I.len⟩ ⟨_, hs, .inl rfl⟩
  ·exact (hs.2 b (Nat.ne_of_lt (Nat.lt_of_lt_of_le (Heap.lt_size e) I.ok.above))).trans (I.base.keep b o e n hb hx)
  ·obtain ⟨sl, e1⟩ := I.base.slot b o e n hb hx
   exact ⟨sl, (hs.2 b (Nat.ne_of_lt (Nat.lt_of_lt_of_le (Heap.lt_size e) I.ok.above))).trans e1⟩
  ·obtain ⟨o', e1⟩ := I.base.there b o e hx
   exact ⟨o', (hs.2 b (Nat.ne_of_lt (Nat.lt_of_lt_of_le (Heap.lt_size e) I.ok.above))).trans e1⟩
  ·by_cases hj : j = i
   ·subst hj
    rw [hi] at e1; cases e1
    rw [List.getElem?_set_self hiσ] at e2
    cases e2
    exact ⟨u, r, .inl ⟨hk, by simp⟩⟩
   ·rw [List.getElem?_set_ne (Ne.symm hj)] at e2
    obtain ⟨u', r', q⟩ := hl j y v' e1 e2 e3
    refine ⟨u', r', ?_⟩
    rcases q with ⟨k, e⟩ | ⟨k, c, e, z⟩
    ·refine .inl ⟨k, ?_⟩
     have : y ≠ x := fun e => hj (rM hN e1 (e ▸ hi))
     simp [this, e]
    ·exact .inr ⟨k, c, e, z.sameBut hs (cne y c e)⟩
  ·obtain ⟨w', z⟩ := I.cell y c e
   exact ⟨w', z.sameBut hs (cne y c e)⟩
  ·obtain ⟨e, n, ne, nf, d⟩ := I.pin p hp
   exact ⟨(hs.2 p.1 ne).trans e, n, ne, nf, d⟩
 ·have hfn : X.fn x = true := by
   rcases hf with z | z
   ·exact z
   ·rw [z] at hk; cases hk
  obtain ⟨c, hc⟩ := I.ok.has x (.inl hk)
  obtain ⟨w', z⟩ := I.cell x c hc
  refine wpAny_storeName_cell I.ok.kind hk hc z (fun h' hc' hs => ?_)
  obtain ⟨oc, hoc, hocd⟩ := id z
  refine h { s with heap := h' } ⟨I.ok, I.os, I.bare, ⟨fun b o e n hb hx => ?_, fun b o e n hb hx => ?_, I.base.free, fun b o e hx => ?_, I.base.tups, I.base.frzs, I.base.tbls⟩, ⟨m, hn.sameBut hs (Ne.symm (cne x c hc)), fun j y v' e1 e2 e3 => ?_⟩, fun y c' e => ?_, I.free, I.freeC, fun p hp => ?_, tracked ⟨oc, hoc, I.freeC x c hc⟩ hs, by simpa using I.len⟩ ⟨c, hs, .inr hc⟩
  ·exact (hs.2 b (Nat.ne_of_lt (Nat.lt_of_lt_of_le (Heap.lt_size e) (I.ok.cab x c hfn hc)))).trans (I.base.keep b o e n hb hx)
  ·obtain ⟨sl, e1⟩ := I.base.slot b o e n hb hx
   exact ⟨sl, (hs.2 b (Nat.ne_of_lt (Nat.lt_of_lt_of_le (Heap.lt_size e) (I.ok.cab x c hfn hc)))).trans e1⟩
  ·obtain ⟨o', e1⟩ := I.base.there b o e hx
   exact ⟨o', (hs.2 b (Nat.ne_of_lt (Nat.lt_of_lt_of_le (Heap.lt_size e) (I.ok.cab x c hfn hc)))).trans e1⟩
  ·by_cases hj : j = i
   ·subst hj
    rw [hi] at e1; cases e1
    rw [List.getElem?_set_self hiσ] at e2
    cases e2
    exact ⟨u, r, .inr ⟨.inl hk, c, hc, hc'⟩⟩
   ·rw [List.getElem?_set_ne (Ne.symm hj)] at e2
    obtain ⟨u', r', q⟩ := hl j y v' e1 e2 e3
    refine ⟨u', r', ?_⟩
    rcases q with q | ⟨k, c', e, z'⟩
    ·exact .inl q
    ·refine .inr ⟨k, c', e, z'.sameBut hs ?_⟩
     rintro rfl
     exact hj (rM hN e1 (I.ok.inj _ _ _ e hc ▸ hi))
  ·by_cases hcc : c' = c
   ·subst hcc; exact ⟨_, hc'⟩
   ·obtain ⟨w2, z2⟩ := I.cell y c' e
    exact ⟨w2, z2.sameBut hs hcc⟩
  ·obtain ⟨e, n, ne, nf, d⟩ := I.pin p hp
   refine ⟨(hs.2 p.1 ?_).trans e, n, ne, nf, d⟩
   intro q
   rw [q, hoc] at e
   have q' : oc = p.2 := Option.some.inj e
   exact d w' (by rw [<- q']; exact hocd)
theorem nX {M : Model} {A : Around} {E : Value -> Shared -> Prop} {i : Nat} {x : Str} {v : V} {u : Value} {Q : Unit -> Shared -> Prop} (I : Inv X pins σ H s) (hN : X.N.Nodup) (hi : X.N[i]? = some x) (hx : Loc X.env.scope x) (r : bC v u)
  (h : ∀ s', Inv X pins (σ.set i (some v)) H s' -> Q () s') (hf : X.fn x = true \/ X.env.scope.names.lookup x = some .local) : wpAny M A (storeName X.env x u) Q E s :=
 vP I hN hi hx r (fun s' I' _ => h s' I') hf
theorem Inv.call' {s' : Shared} {ch : List Addr} (I : Inv X pins σ H s) (ho : s'.os = s.os) (u : Un (frs X.stack) ch H H' s.heap s'.heap) (hok : HOk X.prog X.w H' s'.heap) (hg : AllBare s'.gens)
  (hch : ∀ b ∈ ch, (b ∈ X.ex \/ X.s₀.heap.objs.size <= b) /\ b ≠ X.env.locals /\ (∀ x c, X.env.cells.lookup x = some c -> c ≠ b) /\ ∀ p ∈ X.pn ++ pins, p.1 ≠ b) : Inv X pins σ H' s' := by
 obtain ⟨h', g', d', t', o'⟩ := s'
 have e : o' = s.os := ho
 subst e
 exact I.call (g' := g') (t' := t') (d' := d') u hok hg hch
end
abbrev XK := Value -> Option Addr -> Hp -> Prop
abbrev St := List (Option V)
abbrev VK := V -> Hp -> Prop
abbrev TE := St -> Hp -> VK -> Prop
abbrev TT := St -> Hp -> (Bool -> Hp -> Prop) -> Prop
abbrev TA := St -> Hp -> (List V -> Hp -> Prop) -> Prop
structure iR where
 nx : St -> Hp -> Prop
 rt : VK
 bk : St -> Hp -> Prop := fun _ _ => False
 ct : St -> Hp -> Prop := fun _ _ => False
abbrev TS := iR -> St -> Hp -> Prop
def EP (X : Cx) (pins : List (Addr × Obj)) (σ : St) (Q : VK) (u : Value) (s' : Shared) : Prop := ∃ v H', Inv X pins σ H' s' /\ bC v u /\ Q v H'
def TP (X : Cx) (pins : List (Addr × Obj)) (σ : St) (Q : Bool -> Hp -> Prop) (b : Bool) (s' : Shared) : Prop := ∃ H', Inv X pins σ H' s' /\ Q b H'
def AP (X : Cx) (pins : List (Addr × Obj)) (σ : St) (Q : List V -> Hp -> Prop) (us : List Value) (s' : Shared) : Prop := ∃ vs H', Inv X pins σ H' s' /\ bN vs us /\ Q vs H'
def SP (X : Cx) (pins : List (Addr × Obj)) (D : iR) (f : Flow) (s' : Shared) : Prop :=
 match f with
 | .next => ∃ σ' H', Inv X pins σ' H' s' /\ D.nx σ' H'
 | .brk => ∃ σ' H', Inv X pins σ' H' s' /\ D.bk σ' H'
 | .cont => ∃ σ' H', Inv X pins σ' H' s' /\ D.ct σ' H'
 | .ret u => ∃ v σ' H', Inv X pins σ' H' s' /\ bC v u /\ D.rt v H'
def PE (X : Cx) (e : Expr) (t : TE) : Prop :=
 ∀ (pins : List (Addr × Obj)) (s : Shared) (σ : St) (H : Hp) (Q : VK), Inv X pins σ H s -> t σ H Q -> wpAny (model X.prog X.w) X.A (eval e X.env) (EP X pins σ Q) X.xe s
def PT (X : Cx) (e : Expr) (t : TT) : Prop :=
 ∀ (pins : List (Addr × Obj)) (s : Shared) (σ : St) (H : Hp) (Q : Bool -> Hp -> Prop), Inv X pins σ H s -> t σ H Q -> wpAny (model X.prog X.w) X.A (isTrue e X.env (eval e X.env)) (TP X pins σ Q) X.xe s
def PW (X : Cx) (e : Expr) (t : TT) : Prop :=
 ∀ (whole : Sem Value) (pins : List (Addr × Obj)) (s : Shared) (σ : St) (H : Hp) (Q : Bool -> Hp -> Prop), Inv X pins σ H s -> t σ H Q -> wpAny (model X.prog X.w) X.A (isTrue e X.env whole) (TP X pins σ Q) X.xe s
theorem PW.pt {X : Cx} {e : Expr} {t : TT} (h : PW X e t) : PT X e t := h _
def PA (X : Cx) (es : List Expr) (t : TA) : Prop :=
 ∀ (pos : Pos) (pins : List (Addr × Obj)) (s : Shared) (σ : St) (H : Hp) (Q : List V -> Hp -> Prop), Inv X pins σ H s -> t σ H Q -> wpAny (model X.prog X.w) X.A (spliced (backTo pos (starEach es X.env))) (AP X pins σ Q) X.xe s
def PS (X : Cx) (st : Stmt) (t : TS) : Prop :=
 ∀ (pins : List (Addr × Obj)) (s : Shared) (σ : St) (H : Hp) (D : iR), Inv X pins σ H s -> t D σ H -> wpAny (model X.prog X.w) X.A (exec st X.env) (SP X pins D) X.xe s
def PSs (X : Cx) (st : List Stmt) (t : TS) : Prop :=
 ∀ (pins : List (Addr × Obj)) (s : Shared) (σ : St) (H : Hp) (D : iR), Inv X pins σ H s -> t D σ H -> wpAny (model X.prog X.w) X.A (execs st X.env) (SP X pins D) X.xe s
theorem thn {α : Type} {t : Sem α} {Q Q' : α -> Shared -> Prop} {M : Model} {A : Around} {E : Value -> Shared -> Prop} {s : Shared} (h : wpAny M A t Q E s) (hQ : ∀ a s, Q a s -> Q' a s) : wpAny M A t Q' E s := wpAny_mono h hQ fun _ _ x => x
end L2
namespace L2
open PySem PySem.Spec PyProof.Rows
section
variable {X : Cx}
def j3 (i : Nat) : TE := fun σ H Q => ∃ v, σ[i]? = some (some v) /\ Q v H
def tC (v : V) : TE := fun _ H Q => Q v H
theorem aJQ {i : Nat} {x : Str} {pos : Pos} (hN : X.N[i]? = some x) (hv : Vis X.env.scope x) (hd : (x == ("__debug__" : Str)) = false := by decide) (hcd : (x == ("__classdict__" : Str)) = false := by decide) : PE X (.Name x pos) (j3 i) := by
 intro pins s σ H Q I h
 obtain ⟨v, e, h⟩ := h
 obtain ⟨m, hn, hl⟩ := I.loc
 obtain ⟨u, r, l⟩ := hl i x v hN e hv
 have fin : EP X pins σ Q u s := ⟨v, H, I, r, h⟩
 rcases l with ⟨hk, hm⟩ | ⟨hk, c, hc, hcell⟩
 ·exact wpAny_Name (wpAny_loadName_local I.ok.kind hk hn hm fin) hd
 ·rcases hk with hk | hk
  · exact wpAny_Name (wpAny_loadName_cell I.ok.kind hk hc hcell fin) hd
  · exact wpAny_Name (wpAny_loadName_free I.ok.kind hk hc hcell fin hcd) hd
theorem aJR {i j pos} : PE X (.Constant (.int i) j pos) (tC (.int i)) := fun _ _ _ H _ I h => wpAny_Constant_int ⟨.int i, H, I.tok _, ⟨_, rfl⟩, h⟩
theorem aMM {b j pos} : PE X (.Constant (.bool b) j pos) (tC (.bl b)) := fun _ _ _ H _ I h => Constant_bool ⟨.bl b, H, I, rfl, h⟩
theorem aJS {j pos} : PE X (.Constant .none j pos) (tC .non) := fun _ _ _ H _ I h => Constant_none ⟨.non, H, I, rfl, h⟩
theorem wZ {x j pos} : PE X (.Constant (.str x) j pos) (tC (.str x)) := fun _ _ _ H _ I h => Calls.Constant_str ⟨.str x, H, I.tok _, ⟨_, rfl⟩, h⟩
def Gl (X : Cx) (x : Str) : Prop := X.env.kindOf x = some .globalImplicit
theorem j4 {E : Value -> Shared -> Prop} {pins : List (Addr × Obj)} {s : Shared} {σ : St} {H : Hp} {x : Str} {u : Value} {pos : Pos} {Q : Value -> Shared -> Prop} (I : Inv X pins σ H s) (hg : Gl X x) (hm : X.mg x = some u) (h : Q u s)
  (hd : (x == ("__debug__" : Str)) = false := by decide) : wpAny (model X.prog X.w) X.A (eval (.Name x pos) X.env) Q E s :=
 Calls.Name_function_global I.ok.kind hg (Calls.loadGlobal_global (by rw [I.ok.glob]; exact I.mod.glob.keeps I.bk) hm h) hd
theorem oY {E : Value -> Shared -> Prop} {pins : List (Addr × Obj)} {s : Shared} {σ : St} {H : Hp} {x : Str} {u : Value} {pos : Pos} {Q : Value -> Shared -> Prop} (I : Inv X pins σ H s) (hg : Gl X x) (hm : X.mg x = none) (hv : bootBuiltins x = some u) (h : Q u s)
  (hn : x ≠ "__name__" := by decide) (hd : (x == ("__debug__" : Str)) = false := by decide) : wpAny (model X.prog X.w) X.A (eval (.Name x pos) X.env) Q E s := by
 obtain ⟨mb, h1, h2⟩ := I.mod.blt
 exact Calls.Name_function_global I.ok.kind hg (Calls.loadGlobal_builtin (by rw [I.ok.glob]; exact I.mod.glob.keeps I.bk) hm (by rw [I.ok.blt]; exact h1.keeps I.bk) ((h2 x hn).trans hv) h) hd
theorem m9 {x : Str} {v : V} {u : Value} {pos : Pos} (hg : Gl X x) (hm : X.mg x = some u) (r : bC v u) (hd : (x == ("__debug__" : Str)) = false := by decide) : PE X (.Name x pos) (tC v) :=
 fun _ _ _ H _ I h => j4 I hg hm ⟨v, H, I, r, h⟩ hd
theorem nA {x : Str} {v : V} {u : Value} {pos : Pos} (hg : Gl X x) (hm : X.mg x = none) (hv : bootBuiltins x = some u) (r : bC v u) (hn : x ≠ "__name__" := by decide) (hd : (x == ("__debug__" : Str)) = false := by decide) : PE X (.Name x pos) (tC v) :=
 fun _ _ _ H _ I h => oY I hg hm hv ⟨v, H, I, r, h⟩ hn hd
variable {a b : Expr} {ta tb : TE} {pos : Pos}
def tB (t : TE) : TT := fun σ H Q => t σ H fun x H1 => ∃ c, x = .bl c /\ Q c H1
theorem jK {e : Expr} {t : TE} (h : PE X e t) (he : ∀ whole, isTrue e X.env whole = (do let v <- whole; standAt e.pos; holding [v] (truthy v)) := by intro _; rfl) : PT X e (tB t) := by
 intro pins s σ H Q I hw
 refine isTrue_plain (thn (h pins s σ H _ I hw) fun v s1 zz0 => ?_) (he _)
 obtain ⟨x, H1, I1, r1, q1⟩ := zz0
 obtain ⟨d, rfl, q⟩ := q1
 cases r1
 exact wpAny_truthy_bool ⟨H1, I1, q⟩
variable {tA tB' : TT} {rest : List Expr}
def aJT (t u : TT) : TT := fun σ H Q => t σ H fun c H1 => if c = true then u σ H1 Q else Q false H1
def tOr (t u : TT) : TT := fun σ H Q => t σ H fun c H1 => if c = true then Q true H1 else u σ H1 Q
def aNX (t : TT) : TT := fun σ H Q => t σ H fun c H1 => Q (!c) H1
theorem lH (ha : PT X a tA) : PW X (.BoolOp .And [a] pos) tA := by
 intro wh pins s σ H Q I h
 refine isTrue_and (thn (ha pins s σ H Q I h) fun c s1 e => ?_)
 cases c with
 | true => exact isTrue_and_nil e
 | false => exact e
theorem sM (ha : PT X a tA) : PW X (.BoolOp .Or [a] pos) tA := by
 intro wh pins s σ H Q I h
 refine isTrue_or (thn (ha pins s σ H Q I h) fun c s1 e => ?_)
 cases c with
 | false => exact isTrue_or_nil e
 | true => exact e
theorem lO (ha : PT X a tA) (hb : PW X (.BoolOp .And (b :: rest) pos) tB') : PW X (.BoolOp .And (a :: b :: rest) pos) (aJT tA tB') := by
 intro wh pins s σ H Q I h
 refine isTrue_and (thn (ha pins s σ H _ I h) fun c s1 zz0 => ?_)
 obtain ⟨H1, I1, q1⟩ := zz0
 cases c with
 | true => exact hb wh pins s1 σ H1 Q I1 q1
 | false => exact ⟨H1, I1, q1⟩
theorem sN (ha : PT X a tA) (hb : PW X (.BoolOp .Or (b :: rest) pos) tB') : PW X (.BoolOp .Or (a :: b :: rest) pos) (tOr tA tB') := by
 intro wh pins s σ H Q I h
 refine isTrue_or (thn (ha pins s σ H _ I h) fun c s1 zz0 => ?_)
 obtain ⟨H1, I1, q1⟩ := zz0
 cases c with
 | true => exact ⟨H1, I1, q1⟩
 | false => exact hb wh pins s1 σ H1 Q I1 q1
theorem nB (ha : PT X a tA) : PT X (.UnaryOp .Not a pos) (aNX tA) := by
 intro pins s σ H Q I h
 exact isTrue_not (ha pins s σ H (fun c H1 => Q (!c) H1) I h)
def aMN (ta tb : TE) : TE := fun σ H Q => ta σ H fun x H1 => ∃ c, x = .bl c /\ if c = true then tb σ H1 Q else Q (.bl false) H1
theorem aJU {op} {t : TE} (h : PE X a t) : PE X (.BoolOp op [a] pos) t := fun pins s σ H Q I hw => BoolOp_one (h pins s σ H Q I hw)
theorem aJV (ha : PE X a ta) (hb : PE X (.BoolOp .And (b :: rest) pos) tb) : PE X (.BoolOp .And (a :: b :: rest) pos) (aMN ta tb) := by
 intro pins s σ H Q I h
 refine BoolOp_and (thn (ha pins s σ H _ I h) fun v s1 zz0 => ?_)
 obtain ⟨x, H1, I1, r1, q1⟩ := zz0
 obtain ⟨c, rfl, q1⟩ := q1
 cases r1
 refine wpAny_truthy_bool ?_
 cases c with
 | true => exact hb pins s1 σ H1 Q I1 q1
 | false => exact ⟨.bl false, H1, I1, rfl, q1⟩
def tIf (t : TT) (ta tb : TE) : TE := fun σ H Q => t σ H fun c H1 => if c = true then ta σ H1 Q else tb σ H1 Q
theorem aES {c : Expr} (hc : PT X c tA) (ha : PE X a ta) (hb : PE X b tb) : PE X (.IfExp c a b pos) (tIf tA ta tb) := by
 intro pins s σ H Q I h
 refine wpAny_IfExp (thn (hc pins s σ H _ I h) fun d s1 zz0 => ?_)
 obtain ⟨H1, I1, q1⟩ := zz0
 cases d with
 | true => exact ha pins s1 σ H1 Q I1 q1
 | false => exact hb pins s1 σ H1 Q I1 q1
end
end L2
namespace L2
open PySem PySem.Spec PyProof.Rows
def SqL (K : Frag) (H : Hp) (a : Addr) (xs : List V) : Prop :=
 Rd H a (.lst xs) \/
  ∃ (o : Obj) (its : Array Value) (n : Nat), K.lookup a = some o /\ o.cls = .type "list" /\ o.dict = none /\ o.data = .seq its n /\ its.size <= sizeLine /\ bN xs its.toList
def SqT (K : Frag) (H : Hp) (a : Addr) (xs : List V) : Prop :=
 Rd H a (.tup xs) \/
  ∃ (o : Obj) (its : Array Value) (n : Nat), K.lookup a = some o /\ o.cls = .type "tuple" /\ o.data = .seq its n /\ its.size <= sizeLine /\ bN xs its.toList
noncomputable def aNY : Value -> Option V
 | .none => some .non
 | .bool b => some (.bl b)
 | .int i _ => some (.int i)
 | .str x _ => some (.str x)
 | .bytes b _ => some (.byt b)
 | .float b _ => some (.flt b)
 | .ref a => some (.ref a)
 | .type n => some (.ty n)
 | _ => none
theorem bC.abs {x : V} {u : Value} (r : bC x u) : aNY u = some x := by
 cases x with
 | non => cases r; rfl
 | bl _ => cases r; rfl
 | int _ => obtain ⟨t, rfl⟩ := r; rfl
 | str _ => obtain ⟨t, rfl⟩ := r; rfl
 | byt _ => obtain ⟨t, rfl⟩ := r; rfl
 | flt _ => obtain ⟨t, rfl⟩ := r; rfl
 | ref _ => cases r; rfl
 | ty _ => cases r; rfl
theorem bC.inj {x y : V} {u : Value} (r : bC x u) (q : bC y u) : x = y := Option.some.inj (r.abs.symm.trans q.abs)
theorem bN.inj : ∀ {xs ys : List V} {us : List Value}, bN xs us -> bN ys us -> xs = ys
 | _, _, _, .nil, .nil => rfl
 | _, _, _, .cons r t, .cons r' t' => by rw [r.inj r', bN.inj t t']
section
variable {X : Cx} {pins : List (Addr × Obj)} {σ : St} {H : Hp} {s : Shared} {a : Addr} {xs ys : List V}
theorem SqL.of {K : Frag} (h : H a = some (.lst xs)) : SqL K H a xs := .inl (.inl h)
theorem SqT.of {K : Frag} (h : H a = some (.tup xs)) : SqT K H a xs := .inl (.inl h)
theorem Inv.list (I : Inv X pins σ H s) (h : SqL X.K H a xs) : ∃ its : List Value, bN xs its /\ PlainL s.heap a its.toArray /\ xs.length <= sizeLine := by
 rcases h with h | ⟨o, its, n, hk, hc, hd, hs, hz, r⟩
 ·obtain ⟨z, its, n, r, e⟩ := h.ok I.hok
  exact ⟨its, r, ⟨_, n, e, rfl, rfl, rfl⟩, z⟩
 ·refine ⟨its.toList, r, ⟨o, n, I.kIn a o hk, hc, hd, by simpa using hs⟩, ?_⟩
  have e := r.length
  simp only [Array.length_toList] at e
  omega
theorem Inv.tuple (I : Inv X pins σ H s) (h : SqT X.K H a xs) : ∃ its : List Value, bN xs its /\ IsTup s.heap a its.toArray /\ xs.length <= sizeLine := by
 rcases h with h | ⟨o, its, n, hk, hc, hs, hz, r⟩
 ·obtain ⟨z, its, r, p⟩ := h.ok I.hok
  exact ⟨its, r, p, z⟩
 ·refine ⟨its.toList, r, ⟨o, I.kIn a o hk, hc, n, by simpa using hs⟩, ?_⟩
  have e := r.length
  simp only [Array.length_toList] at e
  omega
theorem Inv.list_inj (I : Inv X pins σ H s) (h : SqL X.K H a xs) (h' : SqL X.K H a ys) : xs = ys := by
 obtain ⟨its, r, ⟨o, n, e, _, _, d⟩, _⟩ := I.list h
 obtain ⟨its', r', ⟨o', n', e', _, _, d'⟩, _⟩ := I.list h'
 rw [e] at e'; cases e'
 rw [d] at d'
 injection d' with d1 _
 have : its = its' := by simpa using congrArg Array.toList d1
 subst this
 exact r.inj r'
theorem Inv.tuple_inj (I : Inv X pins σ H s) (h : SqT X.K H a xs) (h' : SqT X.K H a ys) : xs = ys := by
 obtain ⟨its, r, ⟨o, e, _, n, d⟩, _⟩ := I.tuple h
 obtain ⟨its', r', ⟨o', e', _, n', d'⟩, _⟩ := I.tuple h'
 rw [e] at e'; cases e'
 rw [d] at d'
 injection d' with d1 _
 have : its = its' := by simpa using congrArg Array.toList d1
 subst this
 exact r.inj r'
end
abbrev Cx.wish (X : Cx) (E : Value -> Shared -> Prop) : Cx := { X with xe := E }
abbrev Cx.nox (X : Cx) : Cx := X.wish fun _ _ => False
theorem Cx.Ok.wish {X : Cx} (ok : X.Ok) (E : Value -> Shared -> Prop) : (X.wish E).Ok :=
 ⟨ok.mod, ok.kind, ok.glob, ok.blt, ok.above, ok.inj, ok.has, ok.cab, ok.hd, ok.frames, ok.stk, ok.exf, ok.bs, ok.bsz, ok.noex, ok.exfs, ok.funs, ok.frf⟩
theorem Cx.Ok.unwish {X : Cx} {E : Value -> Shared -> Prop} (ok : (X.wish E).Ok) : X.Ok :=
 ⟨ok.mod, ok.kind, ok.glob, ok.blt, ok.above, ok.inj, ok.has, ok.cab, ok.hd, ok.frames, ok.stk, ok.exf, ok.bs, ok.bsz, ok.noex, ok.exfs, ok.funs, ok.frf⟩
section
variable {X : Cx} {pins : List (Addr × Obj)} {σ : St} {H : Hp} {s : Shared} {E : Value -> Shared -> Prop}
theorem Inv.wish (I : Inv X pins σ H s) (E : Value -> Shared -> Prop) : Inv (X.wish E) pins σ H s := ⟨I.ok.wish E, I.os, I.bare, I.base, I.loc, I.cell, I.free, I.freeC, I.pin, I.hok, I.len⟩
theorem Inv.unwish (I : Inv (X.wish E) pins σ H s) : Inv X pins σ H s := ⟨I.ok.unwish, I.os, I.bare, I.base, I.loc, I.cell, I.free, I.freeC, I.pin, I.hok, I.len⟩
theorem SP.unwish {D : iR} {f : Flow} {s' : Shared} (h : SP (X.wish E) pins D f s') : SP X pins D f s' := by
 cases f with
 | next => obtain ⟨σ', H', I, q⟩ := h; exact ⟨σ', H', I.unwish, q⟩
 | brk => obtain ⟨σ', H', I, q⟩ := h; exact ⟨σ', H', I.unwish, q⟩
 | cont => obtain ⟨σ', H', I, q⟩ := h; exact ⟨σ', H', I.unwish, q⟩
 | ret u => obtain ⟨v, σ', H', I, r, q⟩ := h; exact ⟨v, σ', H', I.unwish, r, q⟩
theorem PSs.nox {st : List Stmt} {t : TS} (h : PSs X.nox st t) : PSs X st t := fun pins s σ H D I hw =>
 wpAny_mono (h pins s σ H D (I.wish _) hw) (fun _ _ q => q.unwish) fun _ _ z => False.elim z
end
section
variable {X : Cx} {st : Stmt} {rest : List Stmt} {t u : TS} {e : Expr} {te : TE} {pos : Pos}
def aMO : TS := fun D σ H => D.nx σ H
def aNZ (t u : TS) : TS := fun D σ H => t { D with nx := u D } σ H
theorem dB : PSs X [] aMO := fun _ _ σ H _ I h => wpAny_execs_nil ⟨σ, H, I, h⟩
theorem aE (h1 : PS X st t) (h2 : PSs X rest u) : PSs X (st :: rest) (aNZ t u) := by
 intro pins s σ H D I h
 refine wpAny_execs_cons (thn (h1 pins s σ H { D with nx := u D } I h) fun f s1 q => ?_)
 cases f with
 | next =>
  obtain ⟨σ', H', I', q⟩ := q
  exact h2 pins s1 σ' H' D I' q
 | ret v => exact q
 | brk => exact q
 | cont => exact q
theorem aS (h1 : PS X st t) : PSs X [st] t := by
 intro pins s σ H D I h
 refine wpAny_execs_cons (thn (h1 pins s σ H D I h) fun f s1 q => ?_)
 cases f with
 | next => exact wpAny_execs_nil q
 | ret v => exact q
 | brk => exact q
 | cont => exact q
theorem Inv.quiet {pins : List (Addr × Obj)} {σ : St} {H : Hp} {s : Shared} (I : Inv X pins σ H s) : interactive X.env = false := by simp [interactive, I.ok.kind]
def aBA (te : TE) : TS := fun D σ H => te σ H fun _ H1 => D.nx σ H1
theorem fN (he : PE X e te) (hs : swapsWith e none pos.line X.env = pure false := by rfl) : PS X (.Expr e pos) (aBA te) := by
 intro pins s σ H D I h
 exact wpAny_Expr_any (thn (he pins s σ H _ I h) fun v s1 ⟨x, H1, I1, r1, q1⟩ => ⟨σ, H1, I1, q1⟩) I.quiet hs
def aN0 (te : TE) : TS := fun D σ H => te σ H D.rt
theorem bT (he : PE X e te) : PS X (.Return (some e) pos) (aN0 te) := by
 intro pins s σ H D I h
 exact wpAny_Return_some (thn (he pins s σ H _ I h) fun v s1 ⟨x, H1, I1, r1, q1⟩ => ⟨x, σ, H1, I1, r1, q1⟩)
def aN1 (c : TT) (t u : TS) : TS := fun D σ H => c σ H fun b H1 => if b = true then t D σ H1 else u D σ H1
theorem eX {c : Expr} {a b : List Stmt} {tc : TT} (hc : PT X c tc) (ha : PSs X a t) (hb : PSs X b u) : PS X (.If c a b pos) (aN1 tc t u) := by
 intro pins s σ H D I h
 refine wpAny_If (thn (hc pins s σ H _ I h) fun d s1 zz0 => ?_)
 obtain ⟨H1, I1, q1⟩ := zz0
 cases d with
 | true => exact ha pins s1 σ H1 D I1 q1
 | false => exact hb pins s1 σ H1 D I1 q1
end
abbrev TG := V -> St -> Hp -> (St -> Hp -> Prop) -> Prop
abbrev TGs := List V -> St -> Hp -> (St -> Hp -> Prop) -> Prop
def PG (X : Cx) (target : Expr) (t : TG) : Prop :=
 ∀ (pins : List (Addr × Obj)) (s : Shared) (σ : St) (H : Hp) (v : V) (u : Value) (Q : St -> Hp -> Prop), Inv X pins σ H s -> bC v u -> t v σ H Q ->
  wpAny (model X.prog X.w) X.A (assign target X.env u) (fun _ s' => ∃ σ' H', Inv X pins σ' H' s' /\ Q σ' H') X.xe s
def PGs (X : Cx) (ts : List Expr) (t : TGs) : Prop :=
 ∀ (pins : List (Addr × Obj)) (s : Shared) (σ : St) (H : Hp) (vs : List V) (us : List Value) (Q : St -> Hp -> Prop), Inv X pins σ H s -> bN vs us -> t vs σ H Q ->
  wpAny (model X.prog X.w) X.A (assignInOrder ((assignEach ts X.env).map (·.2)) us) (fun _ s' => ∃ σ' H', Inv X pins σ' H' s' /\ Q σ' H') X.xe s
abbrev aBB := V -> V -> V -> Hp -> (Hp -> Prop) -> Prop
def aJW (X : Cx) (t : aBB) : Prop :=
 ∀ (pins : List (Addr × Obj)) (s : Shared) (σ : St) (H : Hp) (o i v : V) (ov iv u : Value) (Q : Hp -> Prop), Inv X pins σ H s -> bC o ov -> bC i iv -> bC v u -> t o i v H Q ->
  wpAny (model X.prog X.w) X.A (setItem ov iv u) (fun _ s' => ∃ H', Inv X pins σ H' s' /\ Q H') X.xe s
section
variable {X : Cx} {pos : Pos}
def jL (i : Nat) : TG := fun v σ H Q => Q (σ.set i (some v)) H
theorem bJ {i : Nat} {x : Str} (hN : X.N.Nodup) (hi : X.N[i]? = some x) (hx : Loc X.env.scope x) (hf : X.fn x = true \/ X.env.scope.names.lookup x = some .local := by first | exact .inl rfl | exact .inr rfl) : PG X (.Name x pos) (jL i) := by
 intro pins s σ H v u Q I r h
 exact wpAny_assign_Name (nX I hN hi hx r (fun s' I' => ⟨_, H, I', h⟩) hf)
def aJX : TGs := fun vs σ H Q => vs = [] /\ Q σ H
def aGB (t : TG) (u : TGs) : TGs := fun vs σ H Q => ∃ v r, vs = v :: r /\ t v σ H fun σ' H' => u r σ' H' Q
theorem lI : PGs X [] aJX := by
 intro pins s σ H vs us Q I r h
 obtain ⟨e, h⟩ := h
 subst e
 cases r
 exact assignInOrder_nil ⟨σ, H, I, h⟩
theorem d4 {e : Expr} {es : List Expr} {t : TG} {u : TGs} (h1 : PG X e t) (h2 : PGs X es u)
  (hs : (assignEach (e :: es) X.env).map (·.2) = assign e X.env :: (assignEach es X.env).map (·.2) := by rfl) : PGs X (e :: es) (aGB t u) := by
 intro pins s σ H vs us Q I r h
 obtain ⟨v, vr, e1, h⟩ := h
 subst e1
 cases r with
 | cons r rr =>
  rw [hs]
  refine assignInOrder_cons (thn (h1 pins s σ H _ _ _ I r h) fun _ s1 zz0 => ?_)
  obtain ⟨σ1, H1, I1, q1⟩ := zz0
  exact h2 pins s1 σ1 H1 _ _ Q I1 rr q1
def aJY (K : Frag) (n : Nat) (t : TGs) : TG := fun v σ H Q => ∃ a xs, v = .ref a /\ SqT K H a xs /\ xs.length = n /\ t xs σ H Q
theorem nC {es : List Expr} {k : Nat} {t : TGs} {n : Nat} (hc : X.calm = true) (h : PGs X es t)
  (hn : (assignEach es X.env).length = n := by rfl) (hst : (assignEach es X.env).findIdx? (·.1) = none := by rfl) : PG X (.Tuple es k pos) (aJY X.K n t) := by
 intro pins s σ H v u Q I r hw
 obtain ⟨a, xs, e1, hq, hl, hw⟩ := hw
 subst e1
 cases r
 obtain ⟨its, rv, ht, hz⟩ := I.tuple hq
 refine assign_Tuple_tuple (I.ok.hd hc) ht (by simp [hn, <- hl, rv.length]) hst fun h' hx => ?_
 have I1 : Inv X pins σ H { s with heap := h' } := I.kept (t' := s.toks) fun b o e => hx b o (Nat.ne_of_lt (Heap.lt_size e)) e
 exact h pins _ σ H xs _ Q I1 (by simpa using rv) hw
def aJZ (to ti : TE) (t : aBB) : TG := fun v σ H Q => to σ H fun o H1 => ti σ H1 fun i H2 => t o i v H2 fun H3 => Q σ H3
theorem sO {o i : Expr} {to ti : TE} {t : aBB} (ho : PE X o to) (hi : PE X i ti) (hs : aJW X t)
  (ha : ∀ v, assign (.Subscript o i pos) X.env v = (do
   let ov <- holding [v] (eval o X.env)
   let iv <- holding [v, ov] (eval i X.env)
   standAt pos
   holding [v, ov, iv] (setItem ov iv v)
   release [v, ov, iv] []) := by intro _; rfl) : PG X (.Subscript o i pos) (aJZ to ti t) := by
 intro pins s σ H v u Q I r h
 rw [ha]
 refine wpAny_bind (wpAny_holding (thn (ho pins s σ H _ I h) fun ov s1 zz0 => ?_))
 obtain ⟨x, H1, I1, r1, q1⟩ := zz0
 refine wpAny_bind (wpAny_holding (thn (hi pins s1 σ H1 _ I1 q1) fun iv s2 zz0 => ?_))
 obtain ⟨y, H2, I2, r2, q2⟩ := zz0
 refine wpAny_bind (wpAny_standAt (wpAny_bind (wpAny_holding (thn (hs pins s2 σ H2 x y v ov iv u _ I2 r1 r2 r q2) fun _ s3 zz0 => ?_))))
 obtain ⟨H3, I3, q3⟩ := zz0
 exact wpAny_release ⟨σ, H3, I3, q3⟩
def kS (te : TE) (g : TG) : TS := fun D σ H => te σ H fun x H1 => g x σ H1 D.nx
theorem kN {tg e : Expr} {te : TE} {g : TG} (he : PE X e te) (hg : PG X tg g) (hs : swapsWithSole [tg] e pos.line X.env = pure false := by rfl) (hw : swappedStores [tg] e X.env = pure none := by rfl)
  (h1 : (assignEach [tg] X.env).map (·.2) = [assign tg X.env] := by rfl) : PS X (.Assign [tg] e pos) (kS te g) := by
 intro pins s σ H D I h
 refine wpAny_Assign_stores (thn (he pins s σ H _ I h) fun v s1 zz0 => ?_) hs hw
 obtain ⟨x, H1, I1, r1, q1⟩ := zz0
 rw [h1]
 exact thn (hg pins s1 σ H1 x v _ I1 r1 q1) fun _ s2 q => q
theorem aJ {i : Nat} {x : Str} {e : Expr} {te : TE} {pos' : Pos} (hN : X.N.Nodup) (hi : X.N[i]? = some x) (hx : Loc X.env.scope x) (he : PE X e te) (hs : swapsWith e (some (.Name x pos')) pos.line X.env = pure false := by rfl) (hf : X.fn x = true \/ X.env.scope.names.lookup x = some .local := by exact .inl rfl) :
  PS X (.Assign [.Name x pos'] e pos) (kS te (jL i)) := by
 intro pins s σ H D I h
 refine wpAny_Assign_Name (thn (he pins s σ H _ I h) fun v s1 zz0 => ?_) hs
 obtain ⟨y, H1, I1, r1, q1⟩ := zz0
 exact nX I1 hN hi hx r1 (fun s2 I2 => ⟨_, H1, I2, q1⟩) hf
end
section
variable {X : Cx} {pos : Pos}
def aCS (c : TT) (tb : TS) : TS := fun D σ H => ∃ W : Nat -> St -> Hp -> Prop, (∃ m, W m σ H) /\ ∀ m σ H, W m σ H ->
 c σ H fun b H1 => if b = true then ∃ N : St -> Hp -> Prop, (∀ σ' H', N σ' H' -> ∃ m', m' < m /\ W m' σ' H') /\ tb { D with nx := N, ct := N, bk := D.nx } σ H1 else D.nx σ H1
theorem gL {c : Expr} {body : List Stmt} {tc : TT} {tb : TS} (hp : PassesOwn (model X.prog X.w) X.A X.env X.xe) (hc : PT X c tc) (hb : PSs X body tb) : PS X (.While c body [] pos) (aCS tc tb) := by
 intro pins s σ H D I h
 obtain ⟨W, ⟨m0, w0⟩, turn⟩ := h
 refine wpAny_While (codeAny_whileLoop (fun n s' => ∃ σ' H', Inv X pins σ' H' s' /\ W n σ' H') ?_ m0 ⟨σ, H, I, w0⟩)
 rintro n s1 ⟨σ1, H1, I1, w1⟩
 refine wpAny_passesOwn hp (thn (hc pins s1 σ1 H1 _ I1 (turn n σ1 H1 w1)) fun b s2 zz0 => ?_)
 obtain ⟨H2, I2, q2⟩ := zz0
 cases b with
 | true =>
  obtain ⟨N, hN, q2⟩ := q2
  rw [if_pos rfl]
  refine wpAny_passesOwn hp (thn (hb pins s2 σ1 H2 _ I2 q2) fun f s3 q3 => ?_)
  cases f with
  | next =>
   obtain ⟨σ3, H3, I3, n3⟩ := q3
   obtain ⟨m', hm, w3⟩ := hN σ3 H3 n3
   exact ⟨m', hm, σ3, H3, I3, w3⟩
  | cont =>
   obtain ⟨σ3, H3, I3, n3⟩ := q3
   obtain ⟨m', hm, w3⟩ := hN σ3 H3 n3
   exact ⟨m', hm, σ3, H3, I3, w3⟩
  | brk => exact q3
  | ret v => exact q3
 | false =>
  rw [if_neg Bool.false_ne_true]
  exact wpAny_execs_nil ⟨σ1, H2, I2, q2⟩
end
structure It where
 go : Nat -> Hp -> Prop
 yld : Nat -> Hp -> V -> Hp -> Prop
 stop : Nat -> Hp -> Prop
def j5 (X : Cx) (pins : List (Addr × Obj)) (H : Hp) (b : Addr) : Prop :=
 H b = none /\ b ≠ X.env.locals /\ b ∉ X.fs /\ (b ∈ X.ex \/ X.s₀.heap.objs.size <= b) /\ (∀ x c, X.env.cells.lookup x = some c -> c ≠ b) /\ ∀ p ∈ X.pn ++ pins, p.1 ≠ b
theorem Inv.fpOk {X : Cx} {pins : List (Addr × Obj)} {σ : St} {H H' : Hp} {s : Shared} {b : Addr} (I : Inv X pins σ H s) (hb : s.heap.objs.size <= b) (hn : H' b = none) : j5 X pins H' b := by
 refine ⟨hn, Nat.ne_of_gt (Nat.lt_of_lt_of_le I.lt hb), I.nofs hb, .inr (Nat.le_trans I.sz hb), fun x c e z => ?_, fun p hp z => ?_⟩
 ·obtain ⟨v, q⟩ := I.cell x c e
  exact absurd (Nat.lt_of_lt_of_le q.lt (by rw [z]; exact hb)) (Nat.lt_irrefl _)
 ·exact absurd (Nat.lt_of_lt_of_le (Heap.lt_size (I.pin p hp).1) (by rw [z]; exact hb)) (Nat.lt_irrefl _)
structure Turn (P : Program) (w : World) (K : Frag) (tg : Expr) (J : It) (fp : List Addr) (it : Addr) (tn : Nat -> Heap -> Prop) : Prop where
 mem : it ∈ fp
 obj : ∀ i h, tn i h -> ∀ b ∈ fp, ∃ o, h.get? b = some o /\ ∀ v, o.data ≠ .cell v
 keep : ∀ i h h', tn i h -> (∀ b ∈ fp, ∀ o, h.get? b = some o -> h'.get? b = some o) -> tn i h'
 item : ∀ (X : Cx), X.prog = P -> X.w = w -> X.K = K -> X.calm = true -> ∀ (i : Nat) (pins : List (Addr × Obj)) (s : Shared) (σ : St) (H : Hp) (E : Value -> Shared -> Prop), Inv X pins σ H s -> (∀ b ∈ fp, j5 X pins H b) -> tn i s.heap -> J.go i H ->
  wpAny (model P w) X.A (pyNext (.ref it)) (fun r s1 => ∃ u, r = some u /\
   wpAny (model P w) X.A (letOwnedTupleGo tg (.ref it) u) (fun _ s2 => ∃ x H', Inv X pins σ H' s2 /\ bC x u /\ J.yld i H x H' /\ tn (i + 1) s2.heap /\ ∀ b ∈ fp, H' b = none) E s1) E s
 done : ∀ (X : Cx), X.prog = P -> X.w = w -> X.K = K -> X.calm = true -> ∀ (i : Nat) (pins : List (Addr × Obj)) (s : Shared) (σ : St) (H : Hp) (E : Value -> Shared -> Prop), Inv X pins σ H s -> (∀ b ∈ fp, j5 X pins H b) -> tn i s.heap -> J.stop i H ->
  wpAny (model P w) X.A (pyNext (.ref it)) (fun r s1 => r = none /\ Inv X pins σ H s1) E s
 self : ∀ (A : Around) (i : Nat) (s : Shared) (Q : Value -> Shared -> Prop) (E : Value -> Shared -> Prop), tn i s.heap -> Q (.ref it) s -> wpAny (model P w) A (pyIter (.ref it)) Q E s
abbrev TI := St -> Hp -> (It -> Hp -> Prop) -> Prop
def PIE (X : Cx) (pins : List (Addr × Obj)) (σ : St) (tg : Expr) (R : It -> Hp -> Prop) (itv : Value) (s2 : Shared) : Prop :=
 ∃ (it : Addr) (fp : List Addr) (tn : Nat -> Heap -> Prop) (J : It) (H' : Hp), itv = .ref it /\ Inv X pins σ H' s2 /\ Turn X.prog X.w X.K tg J fp it tn /\ tn 0 s2.heap /\ (∀ b ∈ fp, j5 X pins H' b) /\ R J H'
def PI (X : Cx) (tg iter : Expr) (wi : TI) : Prop :=
 ∀ (pins : List (Addr × Obj)) (s : Shared) (σ : St) (H : Hp) (R : It -> Hp -> Prop), Inv X pins σ H s -> wi σ H R ->
  wpAny (model X.prog X.w) X.A (eval iter X.env) (fun v s1 => wpAny (model X.prog X.w) X.A (pyIter v) (PIE X pins σ tg R) X.xe s1) X.xe s
theorem wN {M : Model} {A : Around} {E : Value -> Shared -> Prop} {s : Shared} {tg : Expr} {it : Addr} {u : Value} {o : Obj} {n : String} {vs : Array Value} {Q : Unit -> Shared -> Prop} (ho : s.heap.get? it = some o) (hc : o.cls = .type n) (hd : o.data = .fields vs)
    (hn : ["enumerate", "zip", "dict_itemiterator", "dict_reverseitemiterator", "odict_iterator", "itertools.zip_longest", "itertools.pairwise"].contains n = false) (hQ : Q () s) : wpAny M A (letOwnedTupleGo tg (.ref it) u) Q E s := by
  unfold letOwnedTupleGo
  cases tg <;> first
    | exact wpAny_pure hQ
    | (cases u <;> first
        | exact wpAny_pure hQ
        | (refine wpAny_bind (wpAny_load ho ?_)
           rw [hc, hd]
           show wpAny M A (if (["enumerate", "zip", "dict_itemiterator", "dict_reverseitemiterator", "odict_iterator", "itertools.zip_longest", "itertools.pairwise"].contains n && vs[0]? == some (rawInt _)) = true then _ else _) Q E s
           rw [if_neg (by intro h; rw [hn, Bool.false_and] at h; cases h)]
           exact wpAny_pure hQ))
def Itl (K : Frag) (a : Addr) : It :=
 ⟨fun i H => ∃ xs x, SqL K H a xs /\ xs[i]? = some x, fun i H x H' => H' = H /\ ∀ xs, SqL K H a xs -> xs[i]? = some x, fun i H => ∃ xs, SqL K H a xs /\ xs.length <= i⟩
def Itt (K : Frag) (a : Addr) : It :=
 ⟨fun i H => ∃ xs x, SqT K H a xs /\ xs[i]? = some x, fun i H x H' => H' = H /\ ∀ xs, SqT K H a xs -> xs[i]? = some x, fun i H => ∃ xs, SqT K H a xs /\ xs.length <= i⟩
noncomputable def Itr (lo : Int) (n : Nat) : It := ⟨fun i _ => i < n, fun i H x H' => H' = H /\ x = .int (lo + i), fun i _ => n <= i⟩
theorem aCT {P : Program} {w : World} {K : Frag} {tg : Expr} (a it : Addr) : Turn P w K tg (Itl K a) [it] it (fun i h => h.IsListIter it a i) where
 mem := by simp
 obj := fun i h st b hb => by
  have e : b = it := by simpa using hb
  subst e
  obtain ⟨o, e, c, d⟩ := st
  exact ⟨o, e, fun v z => by rw [d] at z; cases z⟩
 keep := fun i h h' st k => st.at fun o e => k it (by simp) o e
 item := by
  intro X hP hw hK hc i pins s σ H E I hf st hg
  subst hP hw hK
  obtain ⟨xs, x, hq, hx⟩ := hg
  obtain ⟨its, rv, p, hz⟩ := I.list hq
  obtain ⟨u, hu, ru⟩ := rv.get hx
  obtain ⟨f0, f1, f2, f3, f4, f5⟩ := hf it (by simp)
  refine wpAny_pyNext_list_item st p.isList (x := u) (by simpa using hu) fun h' st' sb => ?_
  have I1 : Inv X pins σ H { s with heap := h' } := I.turned (t' := s.toks) (fun b o hb e => (sb.2 b hb).trans e) f0 f1 f3 f4 f5
  obtain ⟨o, e, c, d⟩ := id st'
  exact ⟨u, rfl, wN (s := { s with heap := h' }) e c d (by decide) ⟨x, H, I1, ru, ⟨rfl, fun ys hy => by rw [I.list_inj hy hq]; exact hx⟩, st', fun b hb => (hf b hb).1⟩⟩
 done := by
  intro X hP hw hK hc i pins s σ H E I hf st hg
  subst hP hw hK
  obtain ⟨xs, hq, hx⟩ := hg
  obtain ⟨its, rv, p, hz⟩ := I.list hq
  obtain ⟨f0, f1, f2, f3, f4, f5⟩ := hf it (by simp)
  have hl := rv.length
  exact wpAny_pyNext_list_end (I.ok.hd hc) st p.isList (by simp; omega) fun h' eb => ⟨rfl, I.turned (t' := s.toks) (fun b o hb e => eb b o hb e) f0 f1 f3 f4 f5⟩
 self := fun _ _ _ _ _ st h => wpAny_pyIter_listiter st h
theorem aBC {P : Program} {w : World} {K : Frag} {tg : Expr} (a it : Addr) : Turn P w K tg (Itt K a) [it] it (fun i h => h.IsTupleIter it a i) where
 mem := by simp
 obj := fun i h st b hb => by
  have e : b = it := by simpa using hb
  subst e
  obtain ⟨o, e, c, d⟩ := st
  exact ⟨o, e, fun v z => by rw [d] at z; cases z⟩
 keep := fun i h h' st k => st.at fun o e => k it (by simp) o e
 item := by
  intro X hP hw hK hc i pins s σ H E I hf st hg
  subst hP hw hK
  obtain ⟨xs, x, hq, hx⟩ := hg
  obtain ⟨its, rv, p, hz⟩ := I.tuple hq
  obtain ⟨u, hu, ru⟩ := rv.get hx
  obtain ⟨f0, f1, f2, f3, f4, f5⟩ := hf it (by simp)
  refine wpAny_pyNext_tuple_item st (show s.heap.IsTuple a its.toArray from p) (x := u) (by simpa using hu) fun h' st' sb => ?_
  have I1 : Inv X pins σ H { s with heap := h' } := I.turned (t' := s.toks) (fun b o hb e => (sb.2 b hb).trans e) f0 f1 f3 f4 f5
  obtain ⟨o, e, c, d⟩ := id st'
  exact ⟨u, rfl, wN (s := { s with heap := h' }) e c d (by decide) ⟨x, H, I1, ru, ⟨rfl, fun ys hy => by rw [I.tuple_inj hy hq]; exact hx⟩, st', fun b hb => (hf b hb).1⟩⟩
 done := by
  intro X hP hw hK hc i pins s σ H E I hf st hg
  subst hP hw hK
  obtain ⟨xs, hq, hx⟩ := hg
  obtain ⟨its, rv, p, hz⟩ := I.tuple hq
  obtain ⟨f0, f1, f2, f3, f4, f5⟩ := hf it (by simp)
  have hl := rv.length
  exact wpAny_pyNext_tuple_end (I.ok.hd hc) st (show s.heap.IsTuple a its.toArray from p) (by simp; omega) fun h' eb => ⟨rfl, I.turned (t' := s.toks) (fun b o hb e => eb b o hb e) f0 f1 f3 f4 f5⟩
 self := fun _ _ _ _ _ st h => wpAny_pyIter_tupleiter st h
theorem aBD {P : Program} {w : World} {K : Frag} {tg : Expr} (it : Addr) (lo : Int) (n : Nat) : Turn P w K tg (Itr lo n) [it] it (fun i h => IsRangeIter h it (lo + (i : Nat) * 1) ((n : Int) - (i : Nat)) 1) where
 mem := by simp
 obj := fun i h st b hb => by
  have e : b = it := by simpa using hb
  subst e
  exact ⟨_, st, fun v z => by
   have z' : Data.fields _ = Data.cell v := z
   cases z'⟩
 keep := fun i h h' st k => k it (by simp) _ st
 item := by
  intro X hP hw hK hc i pins s σ H E I hf st hg
  subst hP hw hK
  obtain ⟨f0, f1, f2, f3, f4, f5⟩ := hf it (by simp)
  have W := Walks.range (prog := X.prog) (w := X.w) (I.ok.hd hc) it lo 1 n
  refine W.item i s _ _ hg st fun v h' tk hv st' kk => ?_
  obtain ⟨t, rfl⟩ := hv
  have I1 : Inv X pins σ H { s with heap := h', toks := tk } := I.turned (fun b o hb e => kk b o (by simpa using hb) e) f0 f1 f3 f4 f5
  refine ⟨_, rfl, wN (s := { s with heap := h', toks := tk }) (n := "range_iterator") st' rfl rfl (by decide) ⟨.int (lo + i), H, I1, ⟨t, ?_⟩, ⟨rfl, rfl⟩, st', fun b hb => (hf b hb).1⟩⟩
  rw [Int.mul_one]
 done := by
  intro X hP hw hK hc i pins s σ H E I hf st hg
  subst hP hw hK
  obtain ⟨f0, f1, f2, f3, f4, f5⟩ := hf it (by simp)
  exact wpAny_pyNext_range_end (I.ok.hd hc) st (by have : n <= i := hg; omega) fun h' eb => ⟨rfl, I.turned (t' := s.toks) (fun b o hb e => eb b o hb e) f0 f1 f3 f4 f5⟩
 self := fun _ _ _ _ _ st h => wpAny_pyIter_rangeiter st h
end L2
namespace L2
open PySem PySem.Spec PyProof.Rows
section
variable {X : Cx} {tg : Expr}
theorem aET {pins : List (Addr × Obj)} {σ : St} {H : Hp} {s : Shared} {R : It -> Hp -> Prop} {E : Value -> Shared -> Prop} {lo hi : Int} {t u v : Tok} {tk : Nat} (I : Inv X pins σ H s) (h1 : -(2 ^ 62) <= lo) (h2 : lo < 2 ^ 62) (h3 : -(2 ^ 62) <= hi) (h4 : hi < 2 ^ 62)
  (q : R (Itr lo (hi - lo).toNat) H) : wpAny (model X.prog X.w) X.A (pyIter (.ref s.heap.objs.size)) (PIE X pins σ tg R) E { s with heap := s.heap.push { cls := .type "range", data := .fields #[.int lo t, .int hi u, .int 1 v] }, toks := tk } := by
 refine wpAny_pyIter_range (IsRange.new ..) (small_one h1 h2 h3 h4) ?_
 have I1 : Inv X pins σ H { s with heap := s.heap.push { cls := .type "range", data := .fields #[.int lo t, .int hi u, .int 1 v] }, toks := tk } := I.kept fun b o e => Heap.get?_push_of_some _ e
 refine ⟨(s.heap.push { cls := .type "range", data := .fields #[.int lo t, .int hi u, .int 1 v] }).objs.size, [(s.heap.push { cls := .type "range", data := .fields #[.int lo t, .int hi u, .int 1 v] }).objs.size], _, _, H, rfl,
  I1.kept (t' := tk) fun b o e => Heap.get?_push_of_some _ e, aBD _ lo (hi - lo).toNat, ?_, fun b hb => ?_, q⟩
 ·have e1 : lo + ((0 : Nat) : Int) * 1 = lo := by simp
  have e2 : (((hi - lo).toNat : Nat) : Int) - ((0 : Nat) : Int) = Builtin.Range.rangeSize lo hi 1 := by rw [rangeSize_one]; split <;> omega
  show IsRangeIter _ _ (lo + ((0 : Nat) : Int) * 1) ((((hi - lo).toNat : Nat) : Int) - ((0 : Nat) : Int)) 1
  rw [e1, e2]
  exact Heap.get?_push_size _ rfl
 ·have e : b = (s.heap.push { cls := .type "range", data := .fields #[.int lo t, .int hi u, .int 1 v] }).objs.size := by simpa using hb
  subst e
  exact I1.fpOk (Nat.le_refl _) (I1.hok.fresh (Nat.le_refl _))
def aGC (ta : TA) : TI := fun σ H R => ta σ H fun vs H1 => ∃ j : Int, vs = [.int j] /\ -(2 ^ 62) <= j /\ j < 2 ^ 62 /\ R (Itr 0 j.toNat) H1
theorem dR {a : Expr} {ta : TA} {p pos : Pos} (hg : Gl X "range") (hm : X.mg "range" = none) (ha : PA X [a] ta) (hs : starEach [a] X.env = [(false, eval a X.env)] := by rfl) : PI X tg (.Call (.Name "range" p) [a] [] pos) (aGC ta) := by
 intro pins s σ H R I h
 refine Call_ (oY I hg hm boot_range (PyProof.Rows.callWith_type1 (thn (ha pos pins s σ H _ I h) fun us s1 zz0 => ?_) hs rfl))
 obtain ⟨vs, H1, I1, r1, q1⟩ := zz0
 obtain ⟨j, e, q1, q2, q⟩ := q1
 subst e
 cases r1 with
 | cons r rr =>
  cases rr
  obtain ⟨t, rfl⟩ := r
  exact call_range_1 (aET I1 (by omega) (by omega) q1 q2 (by simpa using q))
def aJ0 (wi : TI) (g : TG) (tb : TS) : TS := fun D σ H => wi σ H fun J H1 => ∃ W : Nat -> Nat -> St -> Hp -> Prop, (∃ m, W 0 m σ H1) /\ ∀ i m σ H, W i m σ H ->
 (J.stop i H /\ D.nx σ H) \/ (J.go i H /\ ∃ N : St -> Hp -> Prop, (∀ σ' H', N σ' H' -> ∃ m', m' < m /\ W (i + 1) m' σ' H') /\ ∀ x H', J.yld i H x H' -> g x σ H' fun σ2 H2 => tb { D with nx := N, ct := N, bk := D.nx } σ2 H2)
noncomputable def oZ (fp : List Addr) (h : Heap) : List (Addr × Obj) := fp.filterMap fun b => (h.get? b).map fun o => (b, o)
theorem k6 {fp : List Addr} {h : Heap} {b : Addr} {o : Obj} (hb : b ∈ fp) (e : h.get? b = some o) : (b, o) ∈ oZ fp h := List.mem_filterMap.mpr ⟨b, hb, by rw [e]; rfl⟩
theorem aCU {fp : List Addr} {h : Heap} {p : Addr × Obj} (hp : p ∈ oZ fp h) : p.1 ∈ fp /\ h.get? p.1 = some p.2 := by
 obtain ⟨b, hb, e⟩ := List.mem_filterMap.mp hp
 cases q : h.get? b with
 | none => rw [q] at e; cases e
 | some o =>
  rw [q] at e
  have e' : (b, o) = p := Option.some.inj e
  subst e'
  exact ⟨hb, q⟩
theorem Inv.pinned {pins : List (Addr × Obj)} {σ : St} {H : Hp} {s : Shared} {fp : List Addr} (I : Inv X pins σ H s) (hf : ∀ b ∈ fp, j5 X pins H b) (ho : ∀ b ∈ fp, ∃ o, s.heap.get? b = some o /\ ∀ v, o.data ≠ .cell v) : Inv X (pins ++ oZ fp s.heap) σ H s :=
 I.pins_of fun p hp => (List.mem_append.mp hp).elim (fun z => I.pin p (List.mem_append_right _ z)) fun z => by
  obtain ⟨hb, e⟩ := aCU z
  obtain ⟨f0, f1, f2, _⟩ := hf p.1 hb
  obtain ⟨o, e', d⟩ := ho p.1 hb
  rw [e] at e'; cases e'
  exact ⟨e, f0, f1, f2, d⟩
theorem Inv.unpinned {pins pl : List (Addr × Obj)} {σ : St} {H : Hp} {s : Shared} (I : Inv X (pins ++ pl) σ H s) : Inv X pins σ H s := I.pins_of fun p hp => I.pin p (List.mem_append_right _ (List.mem_append_left _ hp))
theorem cX {iter : Expr} {body : List Stmt} {wi : TI} {g : TG} {tb : TS} {pos : Pos} (hp : PassesOwn (model X.prog X.w) X.A X.env X.xe) (hc : X.calm = true) (hi : PI X tg iter wi) (hg : PG X tg g) (hb : PSs X body tb)
  (hs : ∀ x, foldedSetIterable iter X.env x = pure x := by intro _; rfl) : PS X (.For tg iter body [] pos) (aJ0 wi g tb) := by
 intro pins s σ H D I h
 refine wpAny_For (thn (hi pins s σ H _ I h) fun v s1 h1 => thn h1 fun itv s2 h2 => ?_) hs
 obtain ⟨it, fp, tn, J, H2, e, I2, T, st2, f2, W, ⟨m0, w0⟩, turn⟩ := h2
 subst e
 have stat : ∀ {H' : Hp}, (∀ b ∈ fp, H' b = none) -> ∀ b ∈ fp, j5 X pins H' b := fun hn b hb => ⟨hn b hb, (f2 b hb).2⟩
 refine codeAny_forLoop_any (fun n s' => ∃ i σ' H', Inv X pins σ' H' s' /\ tn i s'.heap /\ (∀ b ∈ fp, H' b = none) /\ W i n σ' H') ?_ m0 ⟨0, σ, H2, I2, st2, fun b hb => (f2 b hb).1, w0⟩
 rintro n s3 ⟨i, σ3, H3, I3, st3, fr3, w3⟩
 rcases turn i n σ3 H3 w3 with ⟨stop, qn⟩ | ⟨go, N, hN, step⟩
 ·refine wpAny_passesOwn hp (thn (T.done X rfl rfl rfl hc i pins s3 σ3 H3 X.xe I3 (stat fr3) st3 stop) fun r s4 zz0 => ?_)
  obtain ⟨hr, I4⟩ := zz0
  subst hr
  exact wpAny_execs_nil ⟨σ3, H3, I4, qn⟩
 ·refine wpAny_passesOwn hp (thn (T.item X rfl rfl rfl hc i pins s3 σ3 H3 X.xe I3 (stat fr3) st3 go) fun r s4 zz0 => ?_)
  obtain ⟨u, hr, h4⟩ := zz0
  subst hr
  refine wpAny_passesOwn hp (thn h4 fun _ s5 zz0 => ?_)
  obtain ⟨x, H5, I5, r5, y5, st5, fr5⟩ := zz0
  have I5' := I5.pinned (stat fr5) (T.obj _ _ st5)
  refine wpAny_passesOwn hp (thn (hg _ s5 σ3 H5 x u _ I5' r5 (step x H5 y5)) fun _ s6 zz0 => ?_)
  obtain ⟨σ6, H6, I6, q6⟩ := zz0
  refine wpAny_passesOwn hp (thn (hb _ s6 σ6 H6 _ I6 q6) fun f s7 q7 => ?_)
  have again : ∀ {σ7 : St} {H7 : Hp}, Inv X (pins ++ oZ fp s5.heap) σ7 H7 s7 -> N σ7 H7 -> ∃ m, m < n /\ ∃ i σ' H', Inv X pins σ' H' s7 /\ tn i s7.heap /\ (∀ b ∈ fp, H' b = none) /\ W i m σ' H' := fun {σ7 H7} I7 n7 => by
   obtain ⟨m', hm, w7⟩ := hN σ7 H7 n7
   refine ⟨m', hm, i + 1, σ7, H7, I7.unpinned, T.keep _ _ _ st5 fun b hb o e => (I7.pin (b, o) (List.mem_append_right _ (List.mem_append_right _ (k6 hb e)))).1, fun b hb => ?_, w7⟩
   obtain ⟨o, e, d⟩ := T.obj _ _ st5 b hb
   exact (I7.pin (b, o) (List.mem_append_right _ (List.mem_append_right _ (k6 hb e)))).2.1
  cases f with
  | next => obtain ⟨σ7, H7, I7, n7⟩ := q7; exact again I7 n7
  | cont => obtain ⟨σ7, H7, I7, n7⟩ := q7; exact again I7 n7
  | brk => obtain ⟨σ7, H7, I7, q7⟩ := q7; exact ⟨σ7, H7, I7.unpinned, q7⟩
  | ret v => obtain ⟨x7, σ7, H7, I7, r7, q7⟩ := q7; exact ⟨x7, σ7, H7, I7.unpinned, r7, q7⟩
end
end L2
namespace L2
open PySem PySem.Spec PyProof.Rows
abbrev R2 := V -> V -> Hp -> VK -> Prop
def OpR (X : Cx) (f : Value -> Value -> Sem Value) (r : R2) : Prop :=
 ∀ (pins : List (Addr × Obj)) (s : Shared) (σ : St) (H : Hp) (x y : V) (v u : Value) (Q : VK), Inv X pins σ H s -> bC x v -> bC y u -> r x y H Q ->
  wpAny (model X.prog X.w) X.A (f v u) (EP X pins σ Q) X.xe s
def UnR (X : Cx) (f : Value -> Sem Value) (r : V -> Hp -> VK -> Prop) : Prop :=
 ∀ (pins : List (Addr × Obj)) (s : Shared) (σ : St) (H : Hp) (x : V) (v : Value) (Q : VK), Inv X pins σ H s -> bC x v -> r x H Q ->
  wpAny (model X.prog X.w) X.A (f v) (EP X pins σ Q) X.xe s
def iX (X : Cx) (f : Value) (r : List V -> Hp -> VK -> Prop) : Prop :=
 ∀ (pins : List (Addr × Obj)) (s : Shared) (σ : St) (H : Hp) (xs : List V) (us : List Value) (Q : VK), Inv X pins σ H s -> bN xs us -> r xs H Q ->
  wpAny (model X.prog X.w) X.A (call f us) (EP X pins σ Q) X.xe s
def tOp (r : R2) (ta tb : TE) : TE := fun σ H Q => ta σ H fun x H1 => tb σ H1 fun y H2 => r x y H2 Q
def tUn (r : V -> Hp -> VK -> Prop) (ta : TE) : TE := fun σ H Q => ta σ H fun x H1 => r x H1 Q
def rI (C : Int -> Int -> Prop) (g : Int -> Int -> V) : R2 := fun x y H Q => ∃ i j, x = .int i /\ y = .int j /\ C i j /\ Q (g i j) H
def rI0 (g : Int -> Int -> V) : R2 := fun x y H Q => ∃ i j, x = .int i /\ y = .int j /\ Q (g i j) H
def rU (g : Int -> V) : V -> Hp -> VK -> Prop := fun x H Q => ∃ i, x = .int i /\ Q (g i) H
section
variable {X : Cx} {a b c : Expr} {ta tb tc : TE} {pos : Pos}
theorem aEU (ha : PE X a ta) (hb : PE X b tb) {pins : List (Addr × Obj)} {s : Shared} {σ : St} {H : Hp} {R : V -> V -> Hp -> Prop} (I : Inv X pins σ H s)
  (h : ta σ H fun x H1 => tb σ H1 fun y H2 => R x y H2) {Q : Value -> Shared -> Prop} {f : Value -> Value -> Sem Value}
  (hf : ∀ v u s2 x y H2, Inv X pins σ H2 s2 -> bC x v -> bC y u -> R x y H2 -> wpAny (model X.prog X.w) X.A (f v u) Q X.xe s2) :
  wpAny (model X.prog X.w) X.A (eval a X.env) (fun v s₁ => wpAny (model X.prog X.w) X.A (eval b X.env) (fun u s₂ => wpAny (model X.prog X.w) X.A (f v u) Q X.xe s₂) X.xe s₁) X.xe s := by
 refine thn (ha pins s σ H _ I h) fun v s1 zz0 => ?_
 obtain ⟨x, H1, I1, r1, q1⟩ := zz0
 refine thn (hb pins s1 σ H1 _ I1 q1) fun u s2 zz0 => ?_
 obtain ⟨y, H2, I2, r2, q2⟩ := zz0
 exact hf v u s2 x y H2 I2 r1 r2 q2
theorem aGD {op : Operator} {r : R2} (ho : OpR X (binaryOp op) r) (ha : PE X a ta) (hb : PE X b tb) : PE X (.BinOp a op b pos) (tOp r ta tb) := by
 intro pins s σ H Q I h
 exact wpAny_BinOp (aEU ha hb I h fun v u s2 x y H2 I2 rx ry q => ho pins s2 σ H2 x y v u Q I2 rx ry q)
theorem aMP {op : UnaryOp} {r : V -> Hp -> VK -> Prop} (ho : UnR X (unaryOp op) r) (ha : PE X a ta) : PE X (.UnaryOp op a pos) (tUn r ta) := by
 intro pins s σ H Q I h
 exact UnaryOp_ (thn (ha pins s σ H _ I h) fun v s1 ⟨x, H1, I1, r1, q1⟩ => ho pins s1 σ H1 x v Q I1 r1 q1)
theorem opI {f : Value -> Value -> Sem Value} {C : Int -> Int -> Prop} {g : Int -> Int -> Int}
  (rule : ∀ (i j : Int) (t u : Tok) (s : Shared) (Q : Value -> Shared -> Prop) (E : Value -> Shared -> Prop), C i j -> Q (.int (g i j) s.toks) { s with toks := s.toks + 1 } -> wpAny (model X.prog X.w) X.A (f (.int i t) (.int j u)) Q E s) :
  OpR X f (rI C fun i j => .int (g i j)) := by
 intro pins s σ H x y v u Q I rx ry h
 obtain ⟨i, j, rfl, rfl, hc, q⟩ := h
 obtain ⟨t, rfl⟩ := rx
 obtain ⟨t', rfl⟩ := ry
 exact rule i j t t' s _ _ hc ⟨.int (g i j), H, I.tok _, ⟨_, rfl⟩, q⟩
theorem aJ1 {f : Value -> Value -> Sem Value} {g : Int -> Int -> Int}
  (rule : ∀ (i j : Int) (t u : Tok) (s : Shared) (Q : Value -> Shared -> Prop) (E : Value -> Shared -> Prop), Q (.int (g i j) s.toks) { s with toks := s.toks + 1 } -> wpAny (model X.prog X.w) X.A (f (.int i t) (.int j u)) Q E s) :
  OpR X f (rI0 fun i j => .int (g i j)) := by
 intro pins s σ H x y v u Q I rx ry h
 obtain ⟨i, j, rfl, rfl, q⟩ := h
 obtain ⟨t, rfl⟩ := rx
 obtain ⟨t', rfl⟩ := ry
 exact rule i j t t' s _ _ ⟨.int (g i j), H, I.tok _, ⟨_, rfl⟩, q⟩
theorem aEV {f : Value -> Value -> Sem Value} {g : Int -> Int -> Bool}
  (rule : ∀ (i j : Int) (t u : Tok) (s : Shared) (Q : Value -> Shared -> Prop) (E : Value -> Shared -> Prop), Q (.bool (g i j)) s -> wpAny (model X.prog X.w) X.A (f (.int i t) (.int j u)) Q E s) :
  OpR X f (rI0 fun i j => .bl (g i j)) := by
 intro pins s σ H x y v u Q I rx ry h
 obtain ⟨i, j, rfl, rfl, q⟩ := h
 obtain ⟨t, rfl⟩ := rx
 obtain ⟨t', rfl⟩ := ry
 exact rule i j t t' s _ _ ⟨.bl (g i j), H, I, rfl, q⟩
def aEW (i j : Int) : Prop := (-(2 ^ 64) < i /\ i < 2 ^ 64) \/ (-(2 ^ 64) < j /\ j < 2 ^ 64)
theorem aEW.ok {i j : Int} (h : aEW i j) : IntMulOk i j := by
 rcases h with ⟨h1, h2⟩ | ⟨h1, h2⟩
 · exact .of_left (intBits_le_64 h1 h2)
 · exact .of_right (intBits_le_64 h1 h2)
theorem aJ2 : OpR X (binaryOp .Add) (rI0 fun i j => .int (i + j)) := aJ1 fun _ _ _ _ _ _ _ q => add_int q
theorem aJ3 : OpR X (binaryOp .Sub) (rI0 fun i j => .int (i - j)) := aJ1 fun _ _ _ _ _ _ _ q => sub_int q
theorem aJ4 : OpR X (binaryOp .Mult) (rI aEW fun i j => .int (i * j)) := opI fun _ _ _ _ _ _ _ hc q => mul_int q hc.ok
theorem aJ5 : OpR X (binaryOp .Mod) (rI (fun _ j => 0 < j) fun i j => .int (i % j)) := opI fun i j _ _ _ _ _ hc q => by
 have h1 : (0 : Int) < j := hc
 exact mod_int' (by omega) (by rw [Int.fmod_eq_emod_of_nonneg i (by omega)]; exact q)
theorem unI {f : Value -> Sem Value} {g : Int -> Int}
  (rule : ∀ (i : Int) (t : Tok) (s : Shared) (Q : Value -> Shared -> Prop) (E : Value -> Shared -> Prop), Q (.int (g i) s.toks) { s with toks := s.toks + 1 } -> wpAny (model X.prog X.w) X.A (f (.int i t)) Q E s) :
  UnR X f (rU fun i => .int (g i)) := by
 intro pins s σ H x v Q I rx h
 obtain ⟨i, rfl, q⟩ := h
 obtain ⟨t, rfl⟩ := rx
 exact rule i t s _ _ ⟨.int (g i), H, I.tok _, ⟨_, rfl⟩, q⟩
theorem aJ6 : UnR X (unaryOp .USub) (rU fun i => .int (-i)) := unI fun _ _ _ _ _ q => neg_int q
end
section
variable {X : Cx} {a b c : Expr} {ta tb tc : TE} {pos : Pos}
theorem w4 {pins : List (Addr × Obj)} {σ : St} {H : Hp} {s : Shared} {Q : VK} {k k' : Bool} (I : Inv X pins σ H s) (q : Q (.bl k) H) (e : k = k') : EP X pins σ Q (.bool k') s := by
 subst e
 exact ⟨.bl k, H, I, rfl, q⟩
theorem aMQ : OpR X (compareOp .Lt) (rI0 fun i j => .bl (decide (i < j))) := aEV fun _ _ _ _ _ _ _ q => lt_int q
theorem aMR : OpR X (compareOp .Gt) (rI0 fun i j => .bl (decide (j < i))) := aEV fun _ _ _ _ _ _ _ q => gt_int q
theorem aMS : OpR X (compareOp .GtE) (rI0 fun i j => .bl (decide (j <= i))) := aEV fun _ _ _ _ _ _ _ q => ge_int q
theorem aJ7 : OpR X (compareOp .Is) (fun x y H Q => y = .non /\ Q (.bl (decide (x = .non))) H) := by
 intro pins s σ H x y v u Q I rx ry h
 obtain ⟨rfl, q⟩ := h
 cases ry
 refine is_none_gen (w4 I q ?_)
 cases x <;> first
  | (cases rx; rfl)
  | (obtain ⟨t, rfl⟩ := rx; rfl)
theorem aG6 : OpR X (compareOp .IsNot) (fun x y H Q => y = .non /\ Q (.bl (!decide (x = .non))) H) := by
 intro pins s σ H x y v u Q I rx ry h
 obtain ⟨rfl, q⟩ := h
 cases ry
 refine isnot_none_gen (w4 I q ?_)
 cases x <;> first
  | (cases rx; rfl)
  | (obtain ⟨t, rfl⟩ := rx; rfl)
theorem w5 : OpR X (compareOp .NotIn) (fun x y H Q => ∃ i j, x = .str i /\ y = .str j /\ Q (.bl (!(!(Builtin.Str.occurrences j i 0 j.length 1).isEmpty))) H) := by
 intro pins s σ H x y v u Q I rx ry h
 obtain ⟨i, j, rfl, rfl, q⟩ := h
 obtain ⟨t, rfl⟩ := rx
 obtain ⟨t', rfl⟩ := ry
 exact notIn_str (w4 I q rfl)
theorem cO (b : Expr) {op : CmpOp} (h : op ≠ .In := by decide) (h2 : op ≠ .NotIn := by decide) : behindInMarks op b = false := by
 have e1 : (op == CmpOp.In) = false := by cases op <;> first | rfl | exact absurd rfl h
 have e2 : (op == CmpOp.NotIn) = false := by cases op <;> first | rfl | exact absurd rfl h2
 cases b <;> simp [behindInMarks, e1, e2]
theorem aG7 {op : CmpOp} {r : R2} (ho : OpR X (compareOp op) r) (ha : PE X a ta) (hb : PE X b tb) (hm : behindInMarks op b = false) : PE X (.Compare a [op] [b] pos) (tOp r ta tb) := by
 intro pins s σ H Q I h
 exact wpAny_Compare1 (aEU ha hb I h fun v u s2 x y H2 I2 rx ry q => ho pins s2 σ H2 x y v u Q I2 rx ry q) hm
def aGE (t : TE) : TT := fun σ H Q => t σ H fun x H' => ∃ k, x = .bl k /\ Q k H'
theorem nE {op : CmpOp} {r : R2} (ho : OpR X (compareOp op) r) (ha : PE X a ta) (hb : PE X b tb) (hm : behindInMarks op b = false) : PT X (.Compare a [op] [b] pos) (aGE (tOp r ta tb)) := by
 intro pins s σ H Q I h
 refine wpAny_isTrue_Compare1 (thn (ha pins s σ H _ I h) fun v s1 ⟨x, H1, I1, r1, q1⟩ => thn (hb pins s1 σ H1 _ I1 q1) fun u s2 ⟨y, H2, I2, r2, q2⟩ =>
  thn (ho pins s2 σ H2 x y v u _ I2 r1 r2 q2) fun c s3 ⟨z, H3, I3, r3, k, e, q3⟩ => ?_) hm
 subst e
 cases r3
 exact wpAny_truthy_bool ⟨H3, I3, q3⟩
theorem sP : (sizeLine : Nat) < 2 ^ 63 := by rw [sizeLine_eq]; decide
theorem aBE : OpR X (binaryOp .Add) (fun x y H Q => ∃ i j, x = .str i /\ y = .str j /\ i.length + j.length <= sizeLine /\ Q (.str (i ++ j)) H) := by
 intro pins s σ H x y v u Q I rx ry h
 obtain ⟨i, j, rfl, rfl, hz, q⟩ := h
 obtain ⟨t, rfl⟩ := rx
 obtain ⟨t', rfl⟩ := ry
 exact add_str (fun t' tk => ⟨.str (i ++ j), H, I.tok _, ⟨_, rfl⟩, q⟩) hz
theorem p9 {x : V} {us : List Value} (r : bN [x] us) : ∃ u, us = [u] /\ bC x u := by
 cases r with
 | cons r1 r2 => cases r2; exact ⟨_, rfl, r1⟩
theorem sQ {x y : V} {us : List Value} (r : bN [x, y] us) : ∃ u w', us = [u, w'] /\ bC x u /\ bC y w' := by
 cases r with
 | cons r1 r2 =>
  cases r2 with
  | cons r3 r4 => cases r4; exact ⟨_, _, rfl, r1, r3⟩
theorem aCV (hc : X.calm = true) : iX X (.builtin "max") (fun xs H Q => ∃ i j, xs = [.int i, .int j] /\ Q (.int (if j > i then j else i)) H) := by
 intro pins s σ H xs us Q I r h
 obtain ⟨i, j, rfl, q⟩ := h
 obtain ⟨u, w', rfl, ⟨t, rfl⟩, ⟨t', rfl⟩⟩ := sQ r
 refine max_two_ints (I.ok.hd hc) fun h' tk k => ⟨_, H, I.kept k, ?_, q⟩
 by_cases hj : j > i
 · rw [if_pos hj, if_pos hj]; exact ⟨_, rfl⟩
 · rw [if_neg hj, if_neg hj]; exact ⟨_, rfl⟩
theorem aCW (hc : X.calm = true) : iX X (.builtin "min") (fun xs H Q => ∃ i j, xs = [.int i, .int j] /\ Q (.int (if j < i then j else i)) H) := by
 intro pins s σ H xs us Q I r h
 obtain ⟨i, j, rfl, q⟩ := h
 obtain ⟨u, w', rfl, ⟨t, rfl⟩, ⟨t', rfl⟩⟩ := sQ r
 refine min_two_ints (I.ok.hd hc) fun h' tk k => ⟨_, H, I.kept k, ?_, q⟩
 by_cases hj : j < i
 · rw [if_pos hj, if_pos hj]; exact ⟨_, rfl⟩
 · rw [if_neg hj, if_neg hj]; exact ⟨_, rfl⟩
theorem gK : iX X (.type "int") (fun xs H Q => (∃ i, xs = [.int i] /\ Q (.int i) H) \/ ∃ k, xs = [.bl k] /\ Q (.int (if k then 1 else 0)) H) := by
 intro pins s σ H xs us Q I r h
 rcases h with ⟨i, rfl, q⟩ | ⟨k, rfl, q⟩
 ·obtain ⟨u, rfl, t, rfl⟩ := p9 r
  exact call_int_int ⟨.int i, H, I, ⟨_, rfl⟩, q⟩
 ·obtain ⟨u, rfl, r1⟩ := p9 r
  cases r1
  exact call_int_bool ⟨.int (if k then 1 else 0), H, I.tok _, ⟨_, rfl⟩, q⟩
def aJ8 (K : Frag) (x : V) (H : Hp) (n : Nat) : Prop :=
 match x with
 | .str y => y.length <= sizeLine /\ n = y.length
 | .byt y => y.size <= sizeLine /\ n = y.size
 | .ref p => (∃ xs, SqL K H p xs /\ n = xs.length) \/ ∃ xs, SqT K H p xs /\ n = xs.length
 | _ => False
theorem cU : iX X (.builtin "len") (fun xs H Q => ∃ x n, xs = [x] /\ aJ8 X.K x H n /\ Q (.int n) H) := by
 intro pins s σ H xs us Q I r h
 obtain ⟨x, n, rfl, e, q⟩ := h
 obtain ⟨u, rfl, rx⟩ := p9 r
 have hl := sP
 have hs : sizeLine = 16777216 := sizeLine_eq
 cases x with
 | str y =>
  obtain ⟨t, rfl⟩ := rx
  obtain ⟨hy, e'⟩ : y.length <= sizeLine /\ n = y.length := e
  subst e'
  exact len_str (by omega) ⟨.int _, H, I.tok _, ⟨_, rfl⟩, q⟩
 | byt y =>
  obtain ⟨t, rfl⟩ := rx
  obtain ⟨hy, e'⟩ : y.size <= sizeLine /\ n = y.size := e
  subst e'
  exact PySem.W.len_bytes (by omega) ⟨.int _, H, I.tok _, ⟨_, rfl⟩, q⟩
 | ref p =>
  cases rx
  have e' : (∃ xs, SqL X.K H p xs /\ n = xs.length) \/ ∃ xs, SqT X.K H p xs /\ n = xs.length := e
  rcases e' with ⟨xs, hx, e'⟩ | ⟨xs, hx, e'⟩
  ·subst e'
   obtain ⟨its, r', pl, hz⟩ := I.list hx
   have hlen := r'.length
   exact Calls.call_len_list pl.isList (by simp only [List.size_toArray]; omega) ⟨.int xs.length, H, I.tok _, ⟨_, by simp only [List.size_toArray]; rw [hlen]⟩, q⟩
  ·subst e'
   obtain ⟨its, r', pl, hz⟩ := I.tuple hx
   have hlen := r'.length
   exact len_tuple pl (by simp only [List.size_toArray]; omega) ⟨.int xs.length, H, I.tok _, ⟨_, by simp only [List.size_toArray]; rw [hlen]⟩, q⟩
 | _ => exact (show False from e).elim
end
end L2
namespace L2
open PySem PySem.Spec PyProof.Rows
structure ObjM (h : Heap) (x dx C : Addr) (mA : Str -> Option Value) : Prop where
 obj : h.get? x = some (PySem.W.instObj C dx)
 ns : h.Ns1 dx mA
 ne : dx ≠ x
theorem mC {h : Heap} {dx : Addr} {mA : Str -> Option Value} (n : h.Ns1 dx mA) : ∃ od, h.get? dx = some od /\ ∀ name, PySem.W.lookIn name od = some (mA name) := by
 obtain ⟨o, es, ep, ho, hd, hk, _, hm⟩ := n
 refine ⟨o, ho, fun name => ?_⟩
 have e := hm name
 unfold nsFind findBy at e
 rw [<- Array.find?_toList] at e
 unfold PySem.W.lookIn
 rw [hd]
 dsimp only
 split
 ·rename_i y q
  rw [q] at e
  exact congrArg some e
 ·rename_i q
  rw [q] at e
  have a : es.toList.any (·.refKey) = false := by
   rw [List.any_eq_false]
   intro y hy
   obtain ⟨z, t, hkey⟩ := hk y (Array.mem_toList_iff.mp hy)
   simp [DictEntry.refKey, hkey]
  have a' : ¬ es.toList.any (·.refKey) = true := by rw [a]; exact Bool.false_ne_true
  rw [if_neg a']
  exact congrArg some e
theorem ObjM.look {h : Heap} {x dx C : Addr} {mA : Str -> Option Value} (I : ObjM h x dx C mA) : ∃ od, PySem.W.InstAt h x (PySem.W.instObj C dx) C (some od) /\ ∀ name, PySem.W.lookIn name od = some (mA name) :=
 let ⟨od, ho, hl⟩ := mC I.ns
 ⟨od, ⟨I.obj, rfl, rfl, ho⟩, hl⟩
section
variable {prog : Program} {w : World} {A : Around} {E : Value -> Shared -> Prop} {s : Shared} {K : Frag} {x dx C f : Addr} {mA : Str -> Option Value} {name : Str} {v : Value}
end
noncomputable def uJ (f : Str) (v : V) : List (Str × V) -> List (Str × V)
 | [] => [(f, v)]
 | (g, x) :: r => if g = f then (g, v) :: r else (g, x) :: uJ f v r
theorem rD (f g : Str) (v : V) : ∀ fs : List (Str × V), (uJ f v fs).lookup g = if g = f then some v else fs.lookup g
 | [] => by
  show List.lookup g [(f, v)] = _
  by_cases h : g = f
  ·have hb : (g == f) = true := beq_iff_eq.mpr h
   simp only [List.lookup, hb, if_pos h]
  ·have hb : (g == f) = false := beq_eq_false_iff_ne.mpr h
   simp only [List.lookup, hb, if_neg h]
 | (k, x) :: r => by
  have ih := rD f g v r
  rw [show uJ f v ((k, x) :: r) = (if k = f then (k, v) :: r else (k, x) :: uJ f v r) from rfl]
  by_cases hk : k = f
  ·rw [if_pos hk]
   by_cases h : g = k
   ·have hb : (g == k) = true := beq_iff_eq.mpr h
    simp only [List.lookup, hb, if_pos (h.trans hk)]
   ·have hb : (g == k) = false := beq_eq_false_iff_ne.mpr h
    simp only [List.lookup, hb, if_neg (fun e : g = f => h (e.trans hk.symm))]
  ·rw [if_neg hk]
   by_cases h : g = k
   ·have hb : (g == k) = true := beq_iff_eq.mpr h
    simp only [List.lookup, hb, if_neg (fun e : g = f => hk (h.symm.trans e))]
   ·have hb : (g == k) = false := beq_eq_false_iff_ne.mpr h
    simp only [List.lookup, hb]
    exact ih
theorem g8.some_of {v : V} {o : Option Value} (r : g8 (some v) o) : ∃ u, o = some u /\ bC v u := by
 cases o with
 | none => exact (show False from r).elim
 | some u => exact ⟨u, rfl, r⟩
theorem g8.none_of {o : Option Value} (r : g8 none o) : o = none := by
 cases o with
 | none => rfl
 | some u => exact (show False from r).elim
theorem aCX {v : V} {u : Value} (r : bC v u) : PySem.W.handedIn u = true := by
 cases v with
 | non => cases (show u = Value.none from r); rfl
 | bl b => cases (show u = Value.bool b from r); rfl
 | int i => obtain ⟨t, e⟩ := (show ∃ t, u = Value.int i t from r); cases e; rfl
 | str x => obtain ⟨t, e⟩ := (show ∃ t, u = Value.str x t from r); cases e; rfl
 | byt b => obtain ⟨t, e⟩ := (show ∃ t, u = Value.bytes b t from r); cases e; rfl
 | flt b => obtain ⟨t, e⟩ := (show ∃ t, u = Value.float b t from r); cases e; rfl
 | ref a => cases (show u = Value.ref a from r); rfl
 | ty n => cases (show u = Value.type n from r); rfl
section
variable {P : Program} {w : World} {H H' : Hp} {h h' : Heap} {a C dx : Addr} {fs fs' : List (Str × V)}
theorem aG8 (hok : HOk P w H h) (e : H a = some (.ins C dx fs)) : ∃ mA, ObjM h a dx C mA /\ (∀ f, g8 (fs.lookup f) (mA f)) /\ PySem.Within mA (fs.map (·.1)) /\ fs.length <= 1000 /\ H dx = some (.own a) := by
 obtain ⟨d, z, ne, ob, mA, n, r, q⟩ := (show cE P w H h a (.ins C dx fs) from hok a _ e)
 exact ⟨mA, ⟨ob, n, ne⟩, r, q, z, d⟩
end
structure Cls (K : Frag) (C : Addr) : Prop where
 pg : PySem.W.plainGet K C Str.empty = true
 hd : PySem.W.hasDictIn K C = true
 po : PySem.W.plainOver K C = true
 sa : PySem.W.findIn K (.ref C) "__setattr__" = some (some (.builtin "object.__setattr__"))
theorem Cls.get {K : Frag} {C : Addr} (c : Cls K C) (f : Str) : PySem.W.plainGet K C f = true := c.pg
structure Con (K : Frag) (C : Addr) (f : Str) (v : V) (u : Value) : Prop where
 at_ : PySem.W.findIn K (.ref C) f = some (some u)
 rel : bC v u
 get : PySem.W.specialIn K u "__get__" = some none
 cp : PySem.W.copiedNames.contains f = false
structure Meth (K : Frag) (C : Addr) (m : Str) (f : Addr) : Prop where
 at_ : PySem.W.findIn K (.ref C) m = some (some (.ref f))
 fn : PySem.W.isFn K (.ref f) = true
 kp : PySem.W.keepIn K (.ref f) = true
section
variable {X : Cx} {pins : List (Addr × Obj)} {σ : St} {H : Hp} {s : Shared} {a C dx : Addr} {fs : List (Str × V)} {f : Str} {v : V} {A : Around} {E : Value -> Shared -> Prop}
theorem aG9 {prog : Program} {w : World} {env : Env} {e : Expr} {f : Str} {pos : Pos} {s : Shared} {Q : Value -> Shared -> Prop} (hb : attributeBase e f env (eval e env) = eval e env)
  (h : wpAny (model prog w) A (eval e env) (fun o s₁ => wpAny (model prog w) A (getAttr o f true) Q E s₁) E s) : wpAny (model prog w) A (eval (.Attribute e f pos) env) Q E s :=
 Attribute_any_ h (by rw [arm_eval_Attribute, hb])
end
section
variable {X : Cx} {pins : List (Addr × Obj)} {σ : St} {H : Hp} {s : Shared} {A : Around} {E : Value -> Shared -> Prop} {Q : Value -> Shared -> Prop} {c : Value} {b : Bool}
inductive TyOf (K : Frag) (H : Hp) : V -> Value -> Prop where
 | non : TyOf K H .non (.type "NoneType")
 | bl (x : Bool) : TyOf K H (.bl x) (.type "bool")
 | int (i : Int) : TyOf K H (.int i) (.type "int")
 | str (x : Str) : TyOf K H (.str x) (.type "str")
 | flt (x : UInt64) : TyOf K H (.flt x) (.type "float")
 | lst {a : Addr} {xs : List V} (e : H a = some (.lst xs)) : TyOf K H (.ref a) (.type "list")
 | frz {a : Addr} {o : Obj} {xs : List V} (e : H a = some (.frz o (.lst xs))) : TyOf K H (.ref a) (.type "list")
 | tup {a : Addr} {xs : List V} (e : H a = some (.tup xs)) : TyOf K H (.ref a) (.type "tuple")
 | dK {a : Addr} {kvs : List (Key × V)} (e : H a = some (.dK kvs)) : TyOf K H (.ref a) (.type "dict")
 | dT {a : Addr} {kvs : List (List Key × V)} (e : H a = some (.dT kvs)) : TyOf K H (.ref a) (.type "dict")
 | ins {a C dx : Addr} {fs : List (Str × V)} (e : H a = some (.ins C dx fs)) (cl : Cls K C) (ha : PySem.W.findIn K (.ref C) "__class__" = some (some (.builtin "object.__class__")))
  (hn : PySem.W.specialIn K (.builtin "object.__class__") "__get__" = some (some (.builtin "getset_descriptor.__get__"))) (htk : PySem.W.takesIn K (.builtin "object.__class__") = some true)
  (hm : PySem.W.mroIn K C (.type "object") = some true) : TyOf K H (.ref a) (.ref C)
theorem aCY {x : V} {u t : Value} (I : Inv X pins σ H s) (rx : bC x u) (ty : TyOf X.K H x t) (e : PySem.W.kitOne X.K t c = some b) (h : ∀ tk, Q (.bool b) { s with toks := tk }) :
  wpAny (model X.prog X.w) A (call (.builtin "isinstance") [u, c]) Q E s := by
 cases ty with
 | non => cases (show u = Value.none from rx); exact PySem.W.kia_one PySem.W.kitx_none I.kIn True.intro e (fun z => nomatch z) h
 | bl y => cases (show u = Value.bool y from rx); exact PySem.W.kia_one PySem.W.kitx_bool I.kIn True.intro e (fun z => nomatch z) h
 | int i => obtain ⟨t, q⟩ := (show ∃ t, u = Value.int i t from rx); cases q; exact PySem.W.kia_one PySem.W.kitx_int I.kIn True.intro e (fun z => nomatch z) h
 | str y => obtain ⟨t, q⟩ := (show ∃ t, u = Value.str y t from rx); cases q; exact PySem.W.kia_one PySem.W.kitx_str I.kIn True.intro e (fun z => nomatch z) h
 | flt y => obtain ⟨t, q⟩ := (show ∃ t, u = Value.float y t from rx); cases q; exact PySem.W.kia_one PySem.W.kitx_float I.kIn True.intro e (fun z => nomatch z) h
 | @lst a xs ea =>
  cases (show u = Value.ref a from rx)
  obtain ⟨_, _, n, _, h1⟩ := (show cE X.prog X.w H s.heap a (.lst xs) from I.hok a _ ea)
  exact PySem.W.kia_one PySem.W.kitx_list I.kIn ⟨_, h1, rfl⟩ e (fun z => nomatch z) h
 | @frz a ob xs ea =>
  cases (show u = Value.ref a from rx)
  obtain ⟨_, _, _, n, _, h1⟩ := (show cE X.prog X.w H s.heap a (.frz ob (.lst xs)) from I.hok a _ ea)
  exact PySem.W.kia_one PySem.W.kitx_list I.kIn ⟨_, h1, rfl⟩ e (fun z => nomatch z) h
 | @tup a xs ea =>
  cases (show u = Value.ref a from rx)
  obtain ⟨_, _, _, p⟩ := (show cE X.prog X.w H s.heap a (.tup xs) from I.hok a _ ea)
  obtain ⟨o, h1, h2, _⟩ := p
  exact PySem.W.kia_one PySem.W.kitx_tuple I.kIn ⟨o, h1, h2⟩ e (fun z => nomatch z) h
 | @dK a kvs ea =>
  cases (show u = Value.ref a from rx)
  obtain ⟨_, _, vs, _, p⟩ := (show cE X.prog X.w H s.heap a (.dK kvs) from I.hok a _ ea)
  obtain ⟨o, es, ep, h1, h2, _⟩ := p
  exact PySem.W.kia_one PySem.W.kitx_dict I.kIn ⟨o, h1, h2.1⟩ e (fun z => nomatch z) h
 | @dT a kvs ea =>
  cases (show u = Value.ref a from rx)
  obtain ⟨_, _, xs, _, o, es, ep, h1, h2, _⟩ := (show cE X.prog X.w H s.heap a (.dT kvs) from I.hok a _ ea)
  exact PySem.W.kia_one PySem.W.kitx_dict I.kIn ⟨o, h1, h2.1⟩ e (fun z => nomatch z) h
 | @ins a C dx fs ea cl ha hn htk hm =>
  cases (show u = Value.ref a from rx)
  obtain ⟨mA, O, _⟩ := aG8 I.hok ea
  obtain ⟨od, J, _⟩ := O.look
  exact PySem.W.kia_one (PySem.W.kitx_own (cl.get _) cl.hd ha hn htk hm) I.kIn J e (fun z => nomatch z) h
end
end L2
namespace L2
open PySem PySem.Spec PyProof.Rows
structure Room (k : Nat) (A : Around) : Prop where
 hd : A.handled = none
 dp : A.depth + 3 * k + 5 < recursionLimit
 un : A.units + 16 * k + 200 < cLine
theorem Room.mono {j k : Nat} {A : Around} (r : Room k A) (h : j <= k) : Room j A := ⟨r.hd, by have := r.dp; omega, by have := r.un; omega⟩
theorem Room.deeper {k : Nat} {A : Around} (r : Room (k + 1) A) (env : Env) : Room k (A.deeper env) :=
 ⟨r.hd, by have := r.dp; show A.depth + 1 + 3 * k + 5 < _; omega, by have := r.un; show A.units + 3 + 16 * k + 200 < _; omega⟩
theorem aBF {A : Around} {C : Addr} {us : List Value} {kw : List (Str × Value)} : (A.under (.builtin "type.__call__" ⟨.ref C :: us, kw⟩)).depth = A.depth + 1 := by
 first | rfl | simp [Around.under, Code.weight, Code.isCreation, Code.isGuard, Code.isCaller, Code.frames, Code.isFrame, guardIds]
theorem aBG {A : Around} {C : Addr} {us : List Value} {kw : List (Str × Value)} : (A.under (.builtin "type.__call__" ⟨.ref C :: us, kw⟩)).units = A.units + 1 := by
 first | rfl | simp [Around.under, Code.cUnits, Code.frames, Code.isFrame]
theorem Room.make {k : Nat} {A : Around} (r : Room (k + 1) A) (C : Addr) (us : List Value) (kw : List (Str × Value)) : Room k (A.under (.builtin "type.__call__" ⟨.ref C :: us, kw⟩)) :=
 ⟨r.hd, by have := r.dp; rw [aBF]; omega, by have := r.un; rw [aBG]; omega⟩
theorem Room.depth {k : Nat} {A : Around} (r : Room k A) : A.depth < recursionLimit := by have := r.dp; omega
theorem Room.units {k : Nat} {A : Around} (r : Room k A) : A.units + 64 < cLine := by have := r.un; omega
def j6 : TA := fun _ H Q => Q [] H
def gM (ta : TE) (tr : TA) : TA := fun σ H Q => ta σ H fun x H1 => tr σ H1 fun xs H2 => Q (x :: xs) H2
section
variable {X : Cx} {e : Expr} {es : List Expr} {te : TE} {t : TA} {pos : Pos}
theorem aQ : PA X [] j6 := fun _ _ _ _ H Q I h => Calls.spliced_nil ⟨[], H, I, .nil, h⟩
theorem aK (ha : PE X e te) (hr : PA X es t) (hs : starEach (e :: es) X.env = (false, eval e X.env) :: starEach es X.env := by rfl) : PA X (e :: es) (gM te t) := by
 intro pos pins s σ H Q I h
 rw [hs]
 show wpAny _ _ (spliced ((false, eval e X.env) :: backTo pos (starEach es X.env))) _ _ s
 refine Calls.spliced_cons (thn (ha pins s σ H _ I h) fun u s1 zz0 => ?_)
 obtain ⟨x, H1, I1, r1, q1⟩ := zz0
 exact thn (hr pos pins s1 σ H1 _ I1 q1) fun us s2 ⟨xs, H2, I2, r2, q2⟩ => ⟨x :: xs, H2, I2, .cons r1 r2, q2⟩
def aN2 (t : TA) : TE := fun σ H Q => t σ H fun xs H1 => xs.length <= sizeLine /\ ∀ p, H1 p = none -> Q (.ref p) (upd H1 p (.tup xs))
def aN3 (t : TA) : TE := fun σ H Q => t σ H fun xs H1 => xs.length <= sizeLine /\ ∀ p, H1 p = none -> Q (.ref p) (upd H1 p (.lst xs))
theorem aJ9 {x1} (h : PA X es t) : PE X (.Tuple es x1 pos) (aN2 t) := by
 intro pins s σ H Q I hq
 refine wpAny_Tuple_spliced (thn (h pos pins s σ H _ I hq) fun us s1 ⟨xs, H1, I1, r, z, q⟩ => ⟨by rw [<- r.length]; exact z, ?_⟩)
 have hf : H1 s1.heap.objs.size = none := I1.hok.fresh (Nat.le_refl _)
 refine ⟨.ref s1.heap.objs.size, upd H1 s1.heap.objs.size (.tup xs), I1.laid (t' := s1.toks) (fun b u e => Heap.get?_push_of_some _ e) (Nat.le_refl _) ?_, rfl, q _ hf⟩
 exact ⟨z, us, r, ⟨_, Heap.get?_push_size _ rfl, rfl, _, rfl⟩⟩
theorem aKA (h : PA X es t) : PE X (.List es pos) (aN3 t) := by
 intro pins s σ H Q I hq
 refine wpAny_List_spliced (thn (h pos pins s σ H _ I hq) fun us s1 ⟨xs, H1, I1, r, z, q⟩ => ⟨by rw [<- r.length]; exact z, ?_⟩)
 have hf : H1 s1.heap.objs.size = none := I1.hok.fresh (Nat.le_refl _)
 refine ⟨.ref s1.heap.objs.size, upd H1 s1.heap.objs.size (.lst xs), I1.laid (t' := s1.toks) (fun b u e => Heap.get?_push_of_some _ e) (Nat.le_refl _) ?_, rfl, q _ hf⟩
 exact ⟨z, us, 0, r, Heap.get?_push_size _ rfl⟩
end
abbrev Sp := List V -> Hp -> VK -> XK -> Prop
abbrev CXT := List Env -> Hp -> Shared -> XK -> Value -> Shared -> Prop
structure Env0 (P : Program) (w : World) (K : Frag) (mg : Str -> Option Value) (base : Heap) (A : Around) (outer : List Env) (s : Shared) (H : Hp) : Prop where
 frames : A.frames = some outer
 mod : Mod K mg base
 bs : ∀ b o, base.get? b = some o -> s.heap.get? b = some o /\ H b = none
 bsz : base.objs.size <= s.heap.objs.size
 funs : s.heap.FunFrames base outer
 frf : ∀ b ∈ frs outer, H b = none
 hok : HOk P w H s.heap
 bare : AllBare s.gens
def CE (outer : List Env) (P : Program) (w : World) (H : Hp) (s : Shared) (Q : VK) (u : Value) (s' : Shared) : Prop :=
 ∃ v H', s'.os = s.os /\ AllBare s'.gens /\ Un (frs outer) [] H H' s.heap s'.heap /\ HOk P w H' s'.heap /\ bC v u /\ Q v H'
def CR (CX : CXT) (outer : List Env) (P : Program) (w : World) (H : Hp) (s : Shared) (Q : VK) (E : XK) (r : Result) (s' : Shared) : Prop :=
 match r with
 | .ok (.ret u) => CE outer P w H s Q u s'
 | .ok _ => False
 | .error e => CX outer H s E e s'
structure FnOk (P : Program) (w : World) (K : Frag) (mg : Str -> Option Value) (base : Heap) (CX : CXT) (k : Nat) (f : Addr) (fd : FuncData) (ps : List Str) (sp : Sp) : Prop where
 len : ∀ vs H Q E, sp vs H Q E -> vs.length = ps.length
 run : ∀ (A : Around) (outer : List Env) (s : Shared) (H : Hp) (args : Args) (us : List Value) (vs : List V) (Q : VK) (E : XK), Room k A -> Env0 P w K mg base A outer s H -> BindsTo s fd args (ps.zip us) -> bN vs us -> sp vs H Q E ->
  codeAny (model P w) A (.call (.ref f) args) (CR CX outer P w H s Q E) s
theorem FnOk.imp {P : Program} {w : World} {K : Frag} {mg : Str -> Option Value} {base : Heap} {CX : CXT} {k : Nat} {f : Addr} {fd : FuncData} {ps : List Str} {sp sp' : Sp} (F : FnOk P w K mg base CX k f fd ps sp)
  (h : ∀ vs H Q E, sp' vs H Q E -> sp vs H Q E) : FnOk P w K mg base CX k f fd ps sp' :=
 ⟨fun vs H Q E q => F.len vs H Q E (h _ _ _ _ q), fun A outer s H args us vs Q E hr he hb hv hs => F.run A outer s H args us vs Q E hr he hb hv (h _ _ _ _ hs)⟩
theorem Env0.make {P : Program} {w : World} {K : Frag} {mg : Str -> Option Value} {base : Heap} {A : Around} {outer : List Env} {s : Shared} {H : Hp} (e : Env0 P w K mg base A outer s H) (C : Addr) (us : List Value) (kw : List (Str × Value)) :
 Env0 P w K mg base (A.under (.builtin "type.__call__" ⟨.ref C :: us, kw⟩)) outer s H := ⟨by first | exact e.frames | (simpa [Around.under, Code.envs, Code.isFrame, pushEnvs] using e.frames), e.mod, e.bs, e.bsz, e.funs, e.frf, e.hok, e.bare⟩
section
variable {X : Cx} {pins : List (Addr × Obj)} {σ : St} {H : Hp} {s s' : Shared}
theorem Inv.env0 (I : Inv X pins σ H s) : Env0 X.prog X.w X.K X.mg X.base X.A X.stack s H :=
 ⟨I.ok.frames, I.ok.mod, I.bs, Nat.le_trans I.ok.bsz I.sz, I.stack, I.stkFree, I.hok, I.bare⟩
theorem Inv.after {Q : VK} {u : Value} (I : Inv X pins σ H s) (h : CE X.stack X.prog X.w H s Q u s') : EP X pins σ Q u s' := by
 obtain ⟨v, H', os, bare, un, hok, r, q⟩ := h
 obtain ⟨hh, g, d, t, os'⟩ := s'
 obtain rfl : os' = s.os := os
 exact ⟨v, H', I.call (h' := hh) (g' := g) (d' := d) (t' := t) (ch := []) un hok bare (fun b z => absurd z (by simp)), r, q⟩
end
def qA (sp : Sp) (dvs : List V) (E : XK) (t : TA) : TE := fun σ H Q => t σ H fun vs H1 => sp (vs ++ dvs) H1 Q E
def gN (K : Frag) (fd : FuncData) (ps : List Str) (ds : List Value) : Prop :=
 ∀ (s : Shared) (us : List Value), K.In s.heap -> (us ++ ds).length = ps.length -> BindsTo s fd ⟨us, []⟩ (ps.zip (us ++ ds))
theorem gN.all {K : Frag} {fd : FuncData} {ps : List Str} (h : ∀ us : List Value, us.length = ps.length -> bindArgs fd ⟨us, []⟩ = pure (ps.zip us)) : gN K fd ps [] := fun s us _ hl => by
 rw [List.append_nil] at hl ⊢
 exact .of_eq (h us hl)
def lP (CX : CXT) (X : Cx) (E : XK) : Prop := ∀ (pins : List (Addr × Obj)) (σ : St) (H : Hp) (s : Shared) (e : Value) (s' : Shared), Inv X pins σ H s -> CX X.stack H s E e s' -> X.xe e s'
section
variable {X : Cx} {CX : CXT} {k : Nat} {f C : Addr} {fd : FuncData} {ps : List Str} {sp : Sp} {dvs : List V} {ds : List Value} {E : XK} {x m : Str} {p pos apos : Pos} {e o : Expr} {es : List Expr} {ta : TE} {t : TA}
theorem aCZ {pins : List (Addr × Obj)} {σ : St} {H : Hp} {s : Shared} {Q : VK} {us : List Value} {vs : List V} (F : FnOk X.prog X.w X.K X.mg X.base CX k f fd ps sp) (hr : Room k X.A) (hb : gN X.K fd ps ds) (hd : bN dvs ds) (hx : lP CX X E)
  (I : Inv X pins σ H s) (r : bN vs us) (h : sp (vs ++ dvs) H Q E) : wpAny (model X.prog X.w) X.A (call (.ref f) us) (EP X pins σ Q) X.xe s := by
 have r2 : bN (vs ++ dvs) (us ++ ds) := r.append hd
 have hl : (us ++ ds).length = ps.length := by rw [<- r2.length]; exact F.len _ _ _ _ h
 refine wpAny_call (codeAny_mono (F.run X.A X.stack s H ⟨us, []⟩ (us ++ ds) (vs ++ dvs) Q E hr I.env0 (hb s us I.kIn hl) r2 h) fun r s' hq => ?_)
 cases r with
 | error e => exact hx pins σ H s e s' I hq
 | ok fl =>
  cases fl with
  | ret u => exact I.after hq
  | next => exact False.elim hq
  | brk => exact False.elim hq
  | cont => exact False.elim hq
theorem aHA (F : FnOk X.prog X.w X.K X.mg X.base CX k f fd ps sp) (hr : Room k X.A) (hg : Gl X x) (hm : X.mg x = some (.ref f)) (hk : PySem.W.keepIn X.K (.ref f) = true) (hb : gN X.K fd ps ds) (hd : bN dvs ds) (hx : lP CX X E)
  (ha : PA X (e :: es) t) (hdb : (x == ("__debug__" : Str)) = false := by decide) (he : starEach (e :: es) X.env = (false, eval e X.env) :: starEach es X.env := by rfl) (hpl : (backTo pos (starEach es X.env)).any (·.1) = false := by rfl) :
  PE X (.Call (.Name x p) (e :: es) [] pos) (qA sp dvs E t) := by
 intro pins s σ H Q I h
 refine wpAny_Call_Name_kw (j4 I hg hm ?_ hdb)
 refine PySem.W.callWith_K (h₀ := X.base) I.ok.mod.kin hk (thn (ha pos pins s σ H _ I h) fun us s1 ⟨vs, H1, I1, r, q⟩ => ⟨I1.kIn, ?_⟩) he hpl
 exact aCZ F hr hb hd hx I1 r q
structure Mk (K : Frag) (C f : Addr) : Prop where
 makes : PySem.W.makesIn K C = true
 init : PySem.W.findIn K (.ref C) "__init__" = some (some (.ref f))
 fn : PySem.W.isFn K (.ref f) = true
 kp : PySem.W.keepIn K (.ref C) = true
end
section
variable {X : Cx} {CX : CXT} {k : Nat} {f C : Addr} {fd : FuncData} {ps ks : List Str} {sp : Sp} {E : XK} {x m : Str} {p pos apos kpos : Pos} {e o : Expr} {es : List Expr} {kws : List Keyword} {te ta : TE} {t tk : TA} {nm : Option Str}
structure KBinds (K : Frag) (fd : FuncData) (ps ks : List Str) (g : List Value -> List Value -> List Value) (gV : List V -> List V -> List V) : Prop where
 to : ∀ (s : Shared) (us ws : List Value), K.In s.heap -> (g us ws).length = ps.length -> BindsTo s fd ⟨us, ks.zip ws⟩ (ps.zip (g us ws))
 rel : ∀ {vs : List V} {us : List Value} {zs : List V} {ws : List Value}, bN vs us -> bN zs ws -> bN (gV vs zs) (g us ws)
variable {g : List Value -> List Value -> List Value} {gV : List V -> List V -> List V}
end
structure FnScope (N P : List Str) (sc : Scope) : Prop where
 kind : sc.kind = .function
 co : sc.isCoroutine = false
 gen : sc.isGenerator = false
 nd : N.Nodup
 pre : N.take P.length = P
 par : ∀ x ∈ P, sc.names.lookup x = some .local \/ sc.names.lookup x = some .cell
 nofree : ∀ y ∈ sc.names, y.2 ≠ .free
theorem vQ {kindOf : Str -> Option NameKind} {x : Str} : ∀ {binds : List (Str × Value)} {m : Str -> Option Value}, (∀ v, (x, v) ∉ binds) -> bindL kindOf binds m x = m x
 | [], _, _ => rfl
 | (n, v) :: r, m, h => by
  unfold bindL
  rw [vQ fun w hw => h w (List.mem_cons_of_mem _ hw)]
  split
  ·have : x ≠ n := by rintro rfl; exact h v List.mem_cons_self
   simp [this]
  ·rfl
theorem vR {kindOf : Str -> Option NameKind} {x : Str} : ∀ {binds : List (Str × Value)} {m : Str -> Option Value}, (∀ v, (x, v) ∉ binds) -> bindC kindOf binds m x = m x
 | [], _, _ => rfl
 | (n, v) :: r, m, h => by
  unfold bindC
  rw [vR fun w hw => h w (List.mem_cons_of_mem _ hw)]
  split
  ·rfl
  ·have : x ≠ n := by rintro rfl; exact h v List.mem_cons_self
   simp [this]
theorem o0 {kindOf : Str -> Option NameKind} {x : Str} {v : Value} : ∀ {P : List Str} {vs : List Value} {i : Nat} {m : Str -> Option Value}, P.Nodup -> P[i]? = some x -> vs[i]? = some v -> kindOf x = some .local ->
  bindL kindOf (P.zip vs) m x = some v
 | [], _, _, _, _, h, _, _ => by simp at h
 | _ :: _, [], _, _, _, _, h, _ => by simp at h
 | p :: P, w :: vs, 0, m, nd, h1, h2, hk => by
  simp at h1 h2; subst h1; subst h2
  show bindL kindOf ((p, w) :: P.zip vs) m p = _
  unfold bindL
  rw [vQ fun v hv => (List.nodup_cons.mp nd).1 (List.of_mem_zip hv).1, if_pos hk]
  simp
 | p :: P, w :: vs, i + 1, m, nd, h1, h2, hk => by
  show bindL kindOf ((p, w) :: P.zip vs) m x = _
  unfold bindL
  exact o0 (i := i) (List.nodup_cons.mp nd).2 (by simpa using h1) (by simpa using h2) hk
theorem o3 {kindOf : Str -> Option NameKind} {x : Str} {v : Value} : ∀ {P : List Str} {vs : List Value} {i : Nat} {m : Str -> Option Value}, P.Nodup -> P[i]? = some x -> vs[i]? = some v -> kindOf x ≠ some .local ->
  bindC kindOf (P.zip vs) m x = some v
 | [], _, _, _, _, h, _, _ => by simp at h
 | _ :: _, [], _, _, _, _, h, _ => by simp at h
 | p :: P, w :: vs, 0, m, nd, h1, h2, hk => by
  simp at h1 h2; subst h1; subst h2
  show bindC kindOf ((p, w) :: P.zip vs) m p = _
  unfold bindC
  rw [vR fun v hv => (List.nodup_cons.mp nd).1 (List.of_mem_zip hv).1, if_neg hk]
  simp
 | p :: P, w :: vs, i + 1, m, nd, h1, h2, hk => by
  show bindC kindOf ((p, w) :: P.zip vs) m x = _
  unfold bindC
  exact o3 (i := i) (List.nodup_cons.mp nd).2 (by simpa using h1) (by simpa using h2) hk
noncomputable def start (N : List Str) (vs : List V) : St := vs.map some ++ List.replicate (N.length - vs.length) none
noncomputable def jM (CX : CXT) (P : Program) (w : World) (K : Frag) (mg : Str -> Option Value) (base : Heap) (N : List Str) (qual : Str) (scope : Scope) (f : Addr) (cd : Value) (A : Around) (outer : List Env) (s : Shared) (H : Hp) (E : XK) : Cx where
 prog := P
 w := w
 K := K
 mg := mg
 base := base
 A := A.deeper (envOfC qual scope s.heap.objs.size f cd)
 N := N
 s₀ := s
 H₀ := H
 env := envOfC qual scope s.heap.objs.size f cd
 outer := outer
 stack := envOfC qual scope s.heap.objs.size f cd :: outer
 ex := []
 calm := true
 fn := fun _ => true
 pn := []
 xe := fun e s' => wpAny (model P w) (A.deeper (envOfC qual scope s.heap.objs.size f cd)) (leaving (envOfC qual scope s.heap.objs.size f cd) e) (fun _ s'' => CX outer H s E e s'') (fun e' s'' => CX outer H s E e' s'') s'
theorem lQ {sc : Scope} {n : Nat} {x : Str} (h : sc.names.lookup x = some .cell) : ∃ c, (cellsFrom n sc.names []).lookup x = some c := by
 have q := PySem.W.cellsFrom_some sc.names n [] (.inl h)
 exact Option.isSome_iff_exists.mp q
theorem aC0 {CX : CXT} {P : Program} {w : World} {K : Frag} {mg : Str -> Option Value} {base : Heap} {N ps : List Str} {qual : Str} {scope : Scope} {f : Addr} {cd : Value} {A : Around} {outer : List Env} {s s1 : Shared} {H : Hp} {E : XK} {us : List Value} {vs : List V}
  (S : FnScope N ps scope) (hd : A.handled = none) (e0 : Env0 P w K mg base A outer s H) (hl : vs.length = ps.length) (r : bN vs us)
  (x : InCallC s s.heap.objs.size (bindL (envOfC qual scope s.heap.objs.size f cd).kindOf (ps.zip us) fun _ => none) (cellsFrom (s.heap.objs.size + 1) scope.names []) (bindC (envOfC qual scope s.heap.objs.size f cd).kindOf (ps.zip us) fun _ => none) s1) :
  Inv (jM CX P w K mg base N qual scope f cd A outer s H E) [] (start N vs) H s1 := by
 have hpl : ps.length <= N.length := by have := congrArg List.length S.pre; rw [List.length_take] at this; omega
 obtain ⟨h1, tk, rfl, hk⟩ := x.done
 have noA : ∀ b : Addr, b ∉ (jM CX P w K mg base N qual scope f cd A outer s H E).ex := fun b z => absurd (show b ∈ ([] : List Addr) from z) (by simp)
 refine ⟨⟨e0.mod, S.kind, rfl, rfl, Nat.le_refl _, fun y z c h1 h2 => ?_, fun y hy => ?_, fun y c _ h => ?_, fun _ => hd, Around.frames_deeper e0.frames, .inr ⟨rfl, rfl⟩, fun b z => absurd z (noA b), e0.bs, e0.bsz, fun b _ _ => noA b, fun b z => absurd z (noA b), e0.funs, e0.frf⟩,
  rfl, e0.bare, Un.kept hk, ⟨_, x.toInCall.ns, fun i y v h1 h2 h3 => ?_⟩, fun y c h => ⟨_, x.cell y c h⟩, e0.hok.fresh (Nat.le_refl _), fun y c h => ?_, fun p hp => absurd (show p ∈ ([] : List (Addr × Obj)) from hp) (by simp), e0.hok.kept hk, ?_⟩
 ·exact name_of_addr x.apart (PySem.mem_of_lookup h1) (PySem.mem_of_lookup h2)
 ·have hy : scope.names.lookup y = some .cell \/ scope.names.lookup y = some .free := hy
  rcases hy with hy | hy
  ·exact lQ hy
  ·exact absurd rfl (S.nofree _ (PySem.mem_of_lookup hy))
 ·exact Nat.le_of_lt (x.above y c (PySem.mem_of_lookup h))
 ·have hi : i < vs.length := by
   unfold start at h2
   by_cases hi : i < vs.length
   ·exact hi
   ·rw [List.getElem?_append_right (by simpa using hi)] at h2
    rw [List.getElem?_replicate] at h2
    split at h2 <;> cases h2
  have ha : vs[i]? = some v := by
   unfold start at h2
   rw [List.getElem?_append_left (by simpa using hi), List.getElem?_map] at h2
   cases e : vs[i]? with
   | none => rw [e] at h2; cases h2
   | some a => rw [e] at h2; cases h2; rfl
  obtain ⟨u, hu, rv⟩ := r.get ha
  have hp : ps[i]? = some y := by
   rw [<- S.pre, List.getElem?_take_of_lt (by omega)]; exact h1
  have ndP : ps.Nodup := by rw [<- S.pre]; exact S.nd.sublist (List.take_sublist _ _)
  refine ⟨u, rv, ?_⟩
  rcases S.par y (List.mem_of_getElem? hp) with k | k
  ·exact .inl ⟨k, o0 ndP hp hu k⟩
  ·obtain ⟨c, e⟩ := lQ (n := s.heap.objs.size + 1) k
   refine .inr ⟨.inl k, c, e, ?_⟩
   have q := x.cell y c e
   rw [o3 ndP hp hu (by show scope.names.lookup y ≠ _; rw [k]; decide)] at q
   exact q
 ·exact e0.hok.fresh (Nat.le_of_lt (x.above y c (PySem.mem_of_lookup h)))
 ·unfold start
  show _ = N.length
  rw [List.length_append, List.length_map, List.length_replicate]
  omega
theorem aBH {CX : CXT} {P : Program} {w : World} {K : Frag} {mg : Str -> Option Value} {base : Heap} {k : Nat} {f : Addr} {name qual : Str} {params : Arguments} {body : List Stmt} {scope : Scope} {dV kV doc pm cdv ct oc : Value} {an od : Option Addr}
  {osl : Array (Option Value)} {N ps : List Str} {sp : Sp} (lk : K.lookup f = some ⟨oc, od, .func (PySem.W.fnOf name qual params body scope dV kV doc pm an cdv ct), osl⟩) (hcd : PySem.W.codeIn K cdv qual = true) (S : FnScope N ps scope)
  (len : ∀ vs H Q E, sp vs H Q E -> vs.length = ps.length)
  (hbody : ∀ (A : Around) (outer : List Env) (s : Shared) (H : Hp) (vs : List V) (Q : VK) (E : XK), Room k (A.deeper (envOfC qual scope s.heap.objs.size f cdv)) -> sp vs H Q E ->
   ∃ t, PSs (jM CX P w K mg base N qual scope f cdv A outer s H E) body t /\ t { nx := fun _ H' => Q .non H', rt := Q } (start N vs) H) :
  FnOk P w K mg base CX (k + 1) f (PySem.W.fnOf name qual params body scope dV kV doc pm an cdv ct) ps sp := by
 refine ⟨len, fun A outer s H args us vs Q E hr e0 hb r hsp => ?_⟩
 have hl := len _ _ _ _ hsp
 have KX : K.In s.heap := e0.mod.kin.keeps fun b o e => (e0.bs b o e).1
 have lim : s.heap.NoLimit := e0.mod.nolimit.keeps fun b o e => (e0.bs b o e).1
 have hkind : ∀ y ∈ ps.zip us, scope.names.lookup y.1 = some .local \/ (scope.names.lookup y.1 = some .cell /\ ((cellsFrom (s.heap.objs.size + 1) scope.names []).lookup y.1).isSome = true) := fun zz0 hy => by
  obtain ⟨n, v⟩ := zz0
  rcases S.par n (List.of_mem_zip hy).1 with q | q
  ·exact .inl q
  ·exact .inr ⟨q, PySem.W.cellsFrom_some _ _ _ (.inl q)⟩
 refine codeAny_call_function hr.depth (KX _ _ lk) rfl S.co S.gen rfl (PySem.W.codeRec_of KX hcd) (hb _ _ _ _ ?_)
 refine wpAny_newFunctionEnv_cells S.kind hkind fun env he s1 x => ?_
 subst he
 refine ⟨lim.keeps x.toInCall.keep, codeAny_func ?_⟩
 obtain ⟨t, ht, hq⟩ := hbody A outer s H vs Q E (hr.deeper _) hsp
 have I : Inv (jM CX P w K mg base N qual scope f cdv A outer s H E) [] (start N vs) H s1 := aC0 S hr.hd e0 hl r x
 refine wpAny_mono (ht [] s1 (start N vs) H _ I hq) (fun fl s' hs => ?_) fun e s' hs => hs
 have fin : ∀ {σ' : St} {H' : Hp} {v : V} {u : Value}, Inv (jM CX P w K mg base N qual scope f cdv A outer s H E) [] σ' H' s' -> bC v u -> Q v H' -> CE outer P w H s Q u s' :=
  fun {σ' H' v u} J rv q => ⟨v, H', J.os, J.bare, J.base, J.hok, rv, q⟩
 cases fl with
 | ret u =>
  obtain ⟨v, σ', H', J, rv, q⟩ := hs
  exact fin J rv q
 | next =>
  obtain ⟨σ', H', J, q⟩ := hs
  exact fin (v := V.non) (u := Value.none) J rfl q
 | brk =>
  obtain ⟨_, _, _, q⟩ := hs
  exact False.elim q
 | cont =>
  obtain ⟨_, _, _, q⟩ := hs
  exact False.elim q
end L2
namespace L2
open PySem PySem.Spec PyProof.Rows
section
variable {X : Cx} {x : Str} {p pos : Pos} {e : Expr} {es : List Expr} {t : TA} {id T : String} {r : List V -> Hp -> VK -> Prop}
def tCB (r : List V -> Hp -> VK -> Prop) (t : TA) : TE := fun σ H Q => t σ H fun vs H1 => r vs H1 Q
theorem b7 (hc : iX X (.builtin id) r) (hg : Gl X x) (hm : X.mg x = none) (hv : bootBuiltins x = some (.builtin id)) (ha : PA X (e :: es) t) (hn : x ≠ "__name__" := by decide) (hdb : (x == ("__debug__" : Str)) = false := by decide)
  (he : starEach (e :: es) X.env = (false, eval e X.env) :: starEach es X.env := by rfl) (hpl : (backTo pos (starEach es X.env)).any (·.1) = false := by rfl) : PE X (.Call (.Name x p) (e :: es) [] pos) (tCB r t) := by
 intro pins s σ H Q I h
 refine wpAny_Call_Name_kw (oY I hg hm hv ?_ hn hdb)
 exact PyProof.Rows.callWith_builtin1 (thn (ha pos pins s σ H _ I h) fun us s1 ⟨vs, H1, I1, r1, q1⟩ => hc pins s1 σ H1 vs us Q I1 r1 q1) he hpl
theorem b8 (hc : iX X (.type T) r) (hg : Gl X x) (hm : X.mg x = none) (hv : bootBuiltins x = some (.type T)) (ha : PA X (e :: es) t) (hn : x ≠ "__name__" := by decide) (hdb : (x == ("__debug__" : Str)) = false := by decide)
  (he : starEach (e :: es) X.env = (false, eval e X.env) :: starEach es X.env := by rfl) (hpl : (backTo pos (starEach es X.env)).any (·.1) = false := by rfl) : PE X (.Call (.Name x p) (e :: es) [] pos) (tCB r t) := by
 intro pins s σ H Q I h
 refine wpAny_Call_Name_kw (oY I hg hm hv ?_ hn hdb)
 exact PyProof.Rows.callWith_type1 (thn (ha pos pins s σ H _ I h) fun us s1 ⟨vs, H1, I1, r1, q1⟩ => hc pins s1 σ H1 vs us Q I1 r1 q1) he hpl
end
end L2
namespace HT
open PySem PyProof.Rows
section
open PySem.SeqAt
open PySem.AutoSeq1 (wpAny_loadPart')
open PySem.MeetsSeq PySem.MeetsSeq2 PySem.MeetsSeq3
end
section
variable {prog : Program} {w : World} {A : Around} {E : Value -> Shared -> Prop} {s : Shared}
theorem aHB {t b : Addr} {vs ws : List Value} {Q : Value -> Shared -> Prop} (ht : IsTup s.heap t vs.toArray) (hb : IsTup s.heap b ws.toArray) (hv : vs ≠ [])
  (h1 : ws = [] -> Q (.ref t) s) (h2 : ws ≠ [] -> Q (.ref s.heap.objs.size) { s with heap := s.heap.push { cls := .type "tuple", data := .seq (vs ++ ws).toArray } })
  (hsz : vs.length + ws.length <= sizeLine) : wpAny (model prog w) A (binaryOp .Add (.ref t) (.ref b)) Q E s := by
 obtain ⟨⟨cls, dd, data, sl⟩, ho, hc, n, hd⟩ := id ht
 obtain ⟨⟨cls2, dd2, data2, sl2⟩, ho2, hc2, n2, hd2⟩ := id hb
 simp only at hc hd hc2 hd2
 subst hc hd hc2 hd2
 have e : vs.toArray ++ ws.toArray = (vs ++ ws).toArray := by simp
 by_cases hw : ws = []
 ·exact concat_meets ⟨_, ho, rfl⟩ ⟨_, ho2, rfl⟩ noFill_tuple_add seq_tuple_add PySem.F.slot_tuple_add PySem.F.entry_tuple_add (PySem.F.args_tuple_add_2 _ _)
   (tuple_addW1 t b vs.toArray ws.toArray n n2 dd dd2 sl sl2 (by simpa using hv) (by simp [hw])) ⟨ho, ho2, h1 hw⟩
 ·refine concat_meets ⟨_, ho, rfl⟩ ⟨_, ho2, rfl⟩ noFill_tuple_add seq_tuple_add PySem.F.slot_tuple_add PySem.F.entry_tuple_add (PySem.F.args_tuple_add_2 _ _)
   (tuple_addW2 t b vs.toArray ws.toArray n n2 dd dd2 sl sl2 (by simpa using hv) (by simpa using hw) (by rw [List.size_toArray, List.size_toArray]; exact hsz)) ⟨ho, ho2, ?_⟩
  rw [e]
  exact h2 hw
noncomputable def sIx (n d : Nat) : Option Int -> Nat
 | none => d
 | some v => if v < 0 then (v + (n : Int)).toNat else min v.toNat n
theorem aKB (n d : Nat) (hd : d <= n) (o : Option Int) : sIx n d o <= n := by
 cases o with
 | none => exact hd
 | some v =>
  show (if v < 0 then (v + (n : Int)).toNat else min v.toNat n) <= n
  by_cases hv : v < 0
  · rw [if_pos hv]; omega
  · rw [if_neg hv]; exact Nat.min_le_right _ _
theorem z0 (v : Int) (n d : Nat) : (if v < 0 then max (v + (n : Int)) 0 else min v (n : Int)) = ((sIx n d (some v) : Nat) : Int) := by
 show (if v < 0 then max (v + (n : Int)) 0 else min v (n : Int)) = (((if v < 0 then (v + (n : Int)).toNat else min v.toNat n) : Nat) : Int)
 by_cases hv : v < 0
 · simp only [if_pos hv]; omega
 · simp only [if_neg hv]; omega
theorem aBI (lo hi : Option Int) (n : Nat) : Builtin.Slice.sliceAdjust lo hi 1 (n : Int) = (((sIx n 0 lo : Nat) : Int), ((sIx n n hi : Nat) : Int)) := by
 have h1 : ¬ ((1 : Int) < 0) := by omega
 unfold Builtin.Slice.sliceAdjust
 simp only [h1, if_false]
 refine Prod.ext ?_ ?_
 ·cases lo with
  | none => rfl
  | some v => exact z0 v n 0
 ·cases hi with
  | none => rfl
  | some v => exact z0 v n n
theorem aBJ (i j : Nat) : Builtin.Slice.slicePlaces (i : Int) (j : Int) 1 = j - i := by
 unfold Builtin.Slice.slicePlaces
 have h1 : (1 : Int) > 0 := by omega
 simp only [h1, if_true, Int.ediv_one]
 split <;> omega
theorem sR {v : Value} {o : Option Int} {Q : Option Int -> Shared -> Prop} (p : IsPart v o) (h : Q o s) : wpAny (model prog w) A (Builtin.Slice.slicePartIndex v) Q E s := by
 cases p with
 | none => exact slicePart_none h
 | int i t => exact slicePart_int h
theorem rN {sl : Addr} {vl vu : Value} {lo hi : Option Int} {n : Nat} {Q : Int × Int × Nat -> Shared -> Prop} (hs : s.heap.IsSliceOf sl vl vu .none) (pl : IsPart vl lo) (pu : IsPart vu hi)
  (h : Q (((sIx n 0 lo : Nat) : Int), 1, sIx n n hi - sIx n 0 lo) s) : wpAny (model prog w) A (Builtin.Slice.sliceApplied (.ref sl) (pure (n : Int))) Q E s := by
 obtain ⟨os, hos, hcs, hds⟩ := id hs
 unfold Builtin.Slice.sliceApplied Builtin.Slice.sliceFields
 refine wpAny_bind (wpAny_bind (wpAny_field hos hds (x := vl) rfl (wpAny_bind (wpAny_field hos hds (x := vu) rfl (wpAny_bind (wpAny_field hos hds (x := .none) rfl (wpAny_pure ?_)))))))
 refine wpAny_bind (slicePart_none ?_)
 show wpAny _ _ (if ((1 : Int) == 0) = true then _ else _) _ _ s
 rw [if_neg (by decide)]
 refine wpAny_bind (sR pl (wpAny_bind (sR pu (wpAny_bind (wpAny_pure ?_)))))
 show wpAny _ _ (match Builtin.Slice.sliceAdjust lo hi 1 (n : Int) with | (lo, hi) => pure (lo, (1 : Int), Builtin.Slice.slicePlaces lo hi 1)) _ _ s
 rw [aBI lo hi n]
 show wpAny _ _ (pure (((sIx n 0 lo : Nat) : Int), (1 : Int), Builtin.Slice.slicePlaces ((sIx n 0 lo : Nat) : Int) ((sIx n n hi : Nat) : Int) 1)) _ _ s
 rw [aBJ]
 exact wpAny_pure h
theorem aEX (xs : Array Value) (i k : Nat) : ((List.range k).filterMap fun (m : Nat) => xs[((i : Int) + (m : Int) * 1).toNat]?).toArray = ((xs.toList.drop i).take k).toArray := by
 have e : (fun (m : Nat) => xs[((i : Int) + (m : Int) * 1).toNat]?) = fun m => xs[i + m]? := by
  funext m
  have : ((i : Int) + (m : Int) * 1).toNat = i + m := by omega
  rw [this]
 rw [e]
 have := pick_run xs i k
 rw [List.filterMap_map] at this
 have e2 : ((fun x => xs[x]?) ∘ fun x => i + x) = fun m => xs[i + m]? := rfl
 rw [e2] at this
 rw [this]
theorem qX {t sl : Addr} {items : Array Value} {vl vu : Value} {lo hi : Option Int} {Q : Value -> Shared -> Prop} (ht : IsTup s.heap t items) (hs : s.heap.IsSliceOf sl vl vu .none) (pl : IsPart vl lo) (pu : IsPart vu hi)
  (hw : ¬ (sIx items.size 0 lo = 0 /\ sIx items.size items.size hi = items.size))
  (h : Q (.ref s.heap.objs.size) { s with heap := s.heap.push { cls := .type "tuple", data := .seq ((items.toList.drop (sIx items.size 0 lo)).take (sIx items.size items.size hi - sIx items.size 0 lo)).toArray } })
  (hsz : items.size <= sizeLine) : wpAny (model prog w) A (getItem (.ref t) (.ref sl)) Q E s := by
 have htake : sizeOk (.seq ((items.toList.drop (sIx items.size 0 lo)).take (sIx items.size items.size hi - sIx items.size 0 lo)).toArray) := by
  show ((items.toList.drop (sIx items.size 0 lo)).take (sIx items.size items.size hi - sIx items.size 0 lo)).toArray.size <= sizeLine
  rw [List.size_toArray, List.length_take, List.length_drop, Array.length_toList]
  omega
 have hj : sIx items.size items.size hi <= items.size := aKB _ _ (Nat.le_refl _) hi
 obtain ⟨os, hos, hcs, hds⟩ := id hs
 have hTs : s.TypeIs (.ref sl) "slice" := ⟨os, hos, hcs⟩
 unfold getItem
 try with_reducible refine wpAny_holding ?_
 first | refine wpAny_bind (wpAny_pure ?_) | skip
 refine wpAny_bind (wpAny_sequenceKey ht.typeIs (by decide) ?_)
 refine wpAny_bind (wpAny_callSpecial?_slot (name := Str.ofString "__getitem__") ht.typeIs PyProof.Rows.slot_tuple_getitem
  (wpAny_call_entry PyProof.Rows.slot_tuple_getitem ht.typeIs entry_tuple_getitem ?_ (args_tuple_getitem _ _)))
 show wpAny _ _ (Builtin.Tuple.tupleItemsOf (.ref t) >>= _) _ _ s
 refine wpAny_bind (tupleItemsOf_ ht ?_)
 refine wpAny_bind (wpAny_typeOf hTs ?_)
 rw [if_pos (by decide)]
 refine wpAny_bind (rN hs pl pu ?_)
 have hno : ¬ ((((sIx items.size 0 lo : Nat) : Int) == 0 && (1 : Int) == 1 && (sIx items.size items.size hi - sIx items.size 0 lo) == items.size) = true) := by
  intro q
  rw [Bool.and_eq_true, Bool.and_eq_true] at q
  have q1 : ((sIx items.size 0 lo : Nat) : Int) = 0 := eq_of_beq q.1.1
  have q2 : sIx items.size items.size hi - sIx items.size 0 lo = items.size := eq_of_beq q.2
  exact hw ⟨by omega, by omega⟩
 show wpAny _ _ (if (((sIx items.size 0 lo : Nat) : Int) == 0 && (1 : Int) == 1 && (sIx items.size items.size hi - sIx items.size 0 lo) == items.size) = true then _ else _) _ _ s
 rw [if_neg hno, aEX]
 first
  | exact wpAny_bind (m := Builtin.Tuple.tupleExact _) (wpAny_newObj_type (wpAny_pure ⟨_, rfl, wpAny_pure h⟩) htake)
  | exact wpAny_bind (m := Builtin.Tuple.tupleExact _) (wpAny_newObj_type (wpAny_bind (wpAny_pure (wpAny_pure ⟨_, rfl, wpAny_pure h⟩))) htake)
  | exact wpAny_bind (wpAny_bind (m := Builtin.Tuple.tupleExact _) (wpAny_newObj_type (wpAny_pure (wpAny_pure ⟨_, rfl, wpAny_pure h⟩)) htake))
  | exact wpAny_bind (wpAny_bind (m := Builtin.Tuple.tupleExact _) (wpAny_newObj_type (wpAny_pure ⟨_, rfl, wpAny_pure h⟩) htake))
end
end HT
namespace L2
open PySem PySem.Spec PyProof.Rows
abbrev TO := St -> Hp -> (Option Int -> Hp -> Prop) -> Prop
def PO (X : Cx) (e : Option Expr) (t : TO) : Prop :=
 ∀ (pins : List (Addr × Obj)) (s : Shared) (σ : St) (H : Hp) (Q : Option Int -> Hp -> Prop), Inv X pins σ H s -> t σ H Q ->
  wpAny (model X.prog X.w) X.A (evalPart e X.env) (fun u s' => ∃ o H', Inv X pins σ H' s' /\ IsPart u o /\ Q o H') X.xe s
def aHC : TO := fun _ H Q => Q none H
def aMT (t : TE) : TO := fun σ H Q => t σ H fun x H1 => ∃ i, x = .int i /\ Q (some i) H1
section
variable {X : Cx} {e : Expr} {te : TE} {lo hi : Option Expr} {tl th : TO} {pos p2 : Pos}
theorem aHD : PO X none aHC := by
 intro pins s σ H Q I h
 rw [evalPart_none]
 exact wpAny_pure ⟨none, H, I, .none, h⟩
theorem aHE (h : PE X e te) : PO X (some e) (aMT te) := by
 intro pins s σ H Q I hw
 rw [evalPart_some]
 refine thn (h pins s σ H _ I hw) fun u s1 zz0 => ?_
 obtain ⟨x, H1, I1, r1, q1⟩ := zz0
 obtain ⟨i, rfl, q⟩ := q1
 obtain ⟨t, rfl⟩ := r1
 exact ⟨some i, H1, I1, .int i t, q⟩
def SlR (X : Cx) (r : V -> Option Int -> Option Int -> Hp -> VK -> Prop) : Prop :=
 ∀ (pins : List (Addr × Obj)) (s : Shared) (σ : St) (H : Hp) (x : V) (v vl vu : Value) (lo hi : Option Int) (sl : Addr) (Q : VK), Inv X pins σ H s -> bC x v -> s.heap.IsSliceOf sl vl vu .none -> IsPart vl lo -> IsPart vu hi -> r x lo hi H Q ->
  ∃ T id, typeLookup (.type T) "__getitem__" = pure (some (.builtin id)) /\ s.TypeIs v T /\ wpAny (model X.prog X.w) X.A (getItem v (.ref sl)) (EP X pins σ Q) X.xe s
def tSl (r : V -> Option Int -> Option Int -> Hp -> VK -> Prop) (te : TE) (tl th : TO) : TE := fun σ H Q => te σ H fun x H1 => tl σ H1 fun l H2 => th σ H2 fun u H3 => r x l u H3 Q
theorem aEY {r : V -> Option Int -> Option Int -> Hp -> VK -> Prop} (hr : SlR X r) (he : PE X e te) (hl : PO X lo tl) (hu : PO X hi th) : PE X (.Subscript e (.Slice lo hi none p2) pos) (tSl r te tl th) := by
 intro pins s σ H Q I h
 refine Subscript_ (thn (he pins s σ H _ I h) fun v s1 zz0 => ?_)
 obtain ⟨x, H1, I1, r1, q1⟩ := zz0
 refine wpAny_Slice (thn (hl pins s1 σ H1 _ I1 q1) fun vl s2 ⟨l, H2, I2, pl, q2⟩ => thn (hu pins s2 σ H2 _ I2 q2) fun vu s3 zz0 => ?_)
 obtain ⟨u, H3, I3, pu, q3⟩ := zz0
 rw [evalPart_none]
 refine wpAny_pure ?_
 have I4 : Inv X pins σ H3 { s3 with heap := s3.heap.push { cls := .type "slice", data := .fields #[vl, vu, .none] } } := I3.kept (t' := s3.toks) fun b ob q => Heap.get?_push_of_some _ q
 obtain ⟨T, id, hT, ht, hg⟩ := hr pins { s3 with heap := s3.heap.push { cls := .type "slice", data := .fields #[vl, vu, .none] } } σ H3 x v vl vu l u s3.heap.objs.size Q I4 r1 (Heap.IsSliceOf.new ..) pl pu q3
 show wpAny (model X.prog X.w) X.A (subscriptTail e (.Slice lo hi none p2) v (.ref s3.heap.objs.size)) (EP X pins σ Q) X.xe { s3 with heap := s3.heap.push { cls := .type "slice", data := .fields #[vl, vu, .none] } }
 exact tail_any (ops := [.ref s3.heap.objs.size, v]) ht hT hg (by with_unfolding_all rfl)
noncomputable def o4 (xs : List V) (lo hi : Option Int) : List V := (xs.drop (HT.sIx xs.length 0 lo)).take (HT.sIx xs.length xs.length hi - HT.sIx xs.length 0 lo)
theorem rE (xs : List V) (lo hi : Option Int) : (o4 xs lo hi).length <= xs.length := by
 unfold o4
 rw [List.length_take, List.length_drop]
 omega
def aN4 (K : Frag) : V -> Option Int -> Option Int -> Hp -> VK -> Prop := fun x lo hi H Q => ∃ a xs, x = .ref a /\ SqT K H a xs /\
 ¬ (HT.sIx xs.length 0 lo = 0 /\ HT.sIx xs.length xs.length hi = xs.length) /\ ∀ p, H p = none -> Q (.ref p) (upd H p (.tup (o4 xs lo hi)))
theorem aKC : SlR X (aN4 X.K) := by
 intro pins s σ H x v vl vu lo hi sl Q I rx hs pl pu h
 obtain ⟨a, xs, rfl, hx, hw, q⟩ := h
 cases rx
 obtain ⟨its, r, ht, hz⟩ := I.tuple hx
 have hlen : its.toArray.size = xs.length := by rw [List.size_toArray]; exact r.length.symm
 refine ⟨"tuple", _, PyProof.Rows.slot_tuple_getitem.lookup, ht.typeIs, ?_⟩
 refine HT.qX ht hs pl pu (by rw [hlen]; exact hw) ?_ (by rw [hlen]; exact hz)
 rw [hlen]
 refine ⟨.ref s.heap.objs.size, _, I.laid (t' := s.toks) (o := .tup (o4 xs lo hi)) (fun b ob q => Heap.get?_push_of_some _ q) (Nat.le_refl _) ?_, rfl, q _ (I.hok.fresh (Nat.le_refl _))⟩
 exact ⟨Nat.le_trans (rE xs lo hi) hz, _, (r.drop (HT.sIx xs.length 0 lo)).take (HT.sIx xs.length xs.length hi - HT.sIx xs.length 0 lo), IsTup.new _ _⟩
def aMU (K : Frag) : R2 := fun x y H Q => ∃ a b xs ys, x = .ref a /\ y = .ref b /\ SqT K H a xs /\ SqT K H b ys /\ xs ≠ [] /\ xs.length + ys.length <= sizeLine /\
 (ys = [] -> Q (.ref a) H) /\ (ys ≠ [] -> ∀ p, H p = none -> Q (.ref p) (upd H p (.tup (xs ++ ys))))
theorem bN.nil_iff {xs : List V} {us : List Value} (r : bN xs us) : us = [] ↔ xs = [] := by
 cases r with
 | nil => simp
 | cons _ _ => simp
theorem aHF : OpR X (binaryOp .Add) (aMU X.K) := by
 intro pins s σ H x y v u Q I rx ry h
 obtain ⟨a, b, xs, ys, rfl, rfl, ha, hb, hx, hz, q1, q2⟩ := h
 cases rx
 cases ry
 obtain ⟨its, r1, p1, _⟩ := I.tuple ha
 obtain ⟨its2, r2, p2, _⟩ := I.tuple hb
 refine HT.aHB p1 p2 (fun z => hx (r1.nil_iff.mp z)) (fun z => ⟨.ref a, H, I, rfl, q1 (r2.nil_iff.mp z)⟩) (fun z => ?_) (by rw [<- r1.length, <- r2.length]; exact hz)
 refine ⟨.ref s.heap.objs.size, _, I.laid (t' := s.toks) (o := .tup (xs ++ ys)) (fun b ob q => Heap.get?_push_of_some _ q) (Nat.le_refl _) ?_, rfl, q2 (fun w => z (r2.nil_iff.mpr w)) _ (I.hok.fresh (Nat.le_refl _))⟩
 exact ⟨by rw [List.length_append]; exact hz, _, r1.append r2, IsTup.new _ _⟩
end
end L2
namespace L2
open PySem PySem.Spec PyProof.Rows
noncomputable def ixN (n : Nat) (i : Int) : Option Nat := if 0 <= i then (if i < n then some i.toNat else none) else if -(n : Int) <= i then some (i + n).toNat else none
noncomputable def atI {α : Type} (xs : List α) (i : Int) : Option α := (ixN xs.length i).bind fun j => xs[j]?
theorem aHG {n : Nat} {i : Int} {j : Nat} (h : ixN n i = some j) : seqIndex? i n = some j /\ j < n /\ -(n : Int) <= i /\ i < n := by
 unfold ixN at h
 by_cases h0 : 0 <= i
 ·rw [if_pos h0] at h
  by_cases h1 : i < n
  ·rw [if_pos h1] at h
   have e : i.toNat = j := Option.some.inj h
   exact ⟨by rw [seqIndex_of h0 h1, e], by omega, by omega, h1⟩
  ·rw [if_neg h1] at h; cases h
 ·rw [if_neg h0] at h
  by_cases h1 : -(n : Int) <= i
  ·rw [if_pos h1] at h
   have e : (i + n).toNat = j := Option.some.inj h
   exact ⟨by rw [seqIndex_neg (by omega) h1, e], by omega, h1, by omega⟩
  ·rw [if_neg h1] at h; cases h
theorem uK {α : Type} {xs : List α} {i : Int} {v : α} (h : atI xs i = some v) : ∃ j, seqIndex? i xs.length = some j /\ xs[j]? = some v /\ j < xs.length /\ -(xs.length : Int) <= i /\ i < xs.length := by
 unfold atI at h
 cases e : ixN xs.length i with
 | none => rw [e] at h; cases h
 | some j =>
  rw [e] at h
  obtain ⟨h1, h2, h3, h4⟩ := aHG e
  exact ⟨j, h1, h, h2, h3, h4⟩
theorem gD {α : Type} {xs : List α} {j : Nat} {v : α} (h : xs[j]? = some v) : atI xs (j : Int) = some v := by
 have hj : j < xs.length := (List.getElem?_eq_some_iff.mp h).1
 have e : ixN xs.length (j : Int) = some j := by
  unfold ixN
  rw [if_pos (by omega), if_pos (by omega)]; simp
 unfold atI; rw [e]; exact h
theorem aEZ {α : Type} (xs : List α) (v : α) : atI (xs ++ [v]) (-1) = some v := by
 have hl : (xs ++ [v]).length = xs.length + 1 := by simp
 have e : ixN (xs ++ [v]).length (-1) = some xs.length := by
  unfold ixN
  rw [hl, if_neg (by decide), if_pos (by omega)]
  congr 1
  omega
 unfold atI
 rw [e]
 show (xs ++ [v])[xs.length]? = some v
 simp
def z4 (b : Expr) : Prop := ∀ o i, subscripted b false o i = operate [o, i] (getItem o i)
def IxR (X : Cx) (r : R2) : Prop :=
 ∀ (value slice : Expr) (pins : List (Addr × Obj)) (s : Shared) (σ : St) (H : Hp) (x y : V) (v u : Value) (Q : VK), Inv X pins σ H s -> bC x v -> bC y u -> r x y H Q ->
  subscripted slice false v u = operate [v, u] (getItem v u) -> wpAny (model X.prog X.w) X.A (subscriptTail value slice v u) (EP X pins σ Q) X.xe s
def MtR (X : Cx) (id : String) (r : V -> List V -> Hp -> VK -> Prop) : Prop :=
 ∀ (pins : List (Addr × Obj)) (s : Shared) (σ : St) (H : Hp) (x : V) (xs : List V) (v : Value) (us : List Value) (Q : VK), Inv X pins σ H s -> bC x v -> bN xs us -> r x xs H Q ->
  wpAny (model X.prog X.w) X.A (call (.builtin id) (v :: us)) (EP X pins σ Q) X.xe s
section
variable {X : Cx} {a b : Expr} {ta tb : TE} {pos : Pos}
theorem aMV {r : R2} (hr : IxR X r) (ha : PE X a ta) (hb : PE X b tb) (hs : z4 b) : PE X (.Subscript a b pos) (tOp r ta tb) := by
 intro pins s σ H Q I h
 exact Subscript_ (aEU ha hb I h fun v u s2 x y H2 I2 rx ry q => hr a b pins s2 σ H2 x y v u Q I2 rx ry q (hs _ _))
def aN5 (K : Frag) : R2 := fun x y H Q => ∃ p xs i v, x = .ref p /\ y = .int i /\ SqL K H p xs /\ atI xs i = some v /\ Q v H
def aN6 (K : Frag) : R2 := fun x y H Q => ∃ p xs i v, x = .ref p /\ y = .int i /\ SqT K H p xs /\ atI xs i = some v /\ Q v H
def aN7 : R2 := fun x y H Q => ∃ z i c, x = .str z /\ y = .int i /\ z.length <= sizeLine /\ atI z.cps.toList i = some c /\ Q (.str ⟨#[c]⟩) H
theorem aHH : IxR X (aN5 X.K) := by
 intro value slice pins s σ H x y v u Q I rx ry h hs
 obtain ⟨p, xs, i, z, rfl, rfl, hq, he, q⟩ := h
 cases rx
 obtain ⟨t, rfl⟩ := ry
 obtain ⟨its, r, pl, hz⟩ := I.list hq
 obtain ⟨j, h1, h2, h3, h4, h5⟩ := uK he
 obtain ⟨w, ew, rw'⟩ := r.get h2
 have hl := r.length
 have hn := sP
 have fin : EP X pins σ Q w s := ⟨z, H, I, rw', q⟩
 by_cases h0 : 0 <= i
 ·have hj : i.toNat = j := by
   rw [seqIndex_of h0 h5] at h1
   exact Option.some.inj h1
  exact item_listR pl.isList h0 (by omega) (by rw [hj]; simpa using ew) fin hs
 ·have hj : (i + (its.toArray.size : Int)).toNat = j := by
   rw [seqIndex_neg (by omega) h4] at h1
   rw [List.size_toArray, <- hl]
   exact Option.some.inj h1
  exact subscriptTail_builtinR (x := w) pl.isList.typeIs slot_list_getitem.lookup
   (wpAny_getItem_list_neg (Q := fun r s' => r = w /\ EP X pins σ Q r s') pl.isList (by omega) (by rw [List.size_toArray] <;> omega) (by omega) (by rw [hj]; simpa using ew) ⟨rfl, fin⟩) hs
theorem aKD : IxR X (aN6 X.K) := by
 intro value slice pins s σ H x y v u Q I rx ry h hs
 obtain ⟨p, xs, i, z, rfl, rfl, hq, he, q⟩ := h
 cases rx
 obtain ⟨t, rfl⟩ := ry
 obtain ⟨its, r, pl, hz⟩ := I.tuple hq
 obtain ⟨j, h1, h2, h3, h4, h5⟩ := uK he
 obtain ⟨w, ew, rw'⟩ := r.get h2
 have hl := r.length
 have hn := sP
 have fin : EP X pins σ Q w s := ⟨z, H, I, rw', q⟩
 exact subscriptTail_builtinR (x := w) pl.typeIs slot_tuple_getitem.lookup
  (getItem_tuple (j := j) (Q := fun r s' => r = w /\ EP X pins σ Q r s') pl (by omega) (by omega) (by rw [List.size_toArray, <- hl]; exact h1) (by simpa using ew) ⟨rfl, fin⟩) hs
theorem aKE : IxR X aN7 := by
 intro value slice pins s σ H x y v u Q I rx ry h hs
 obtain ⟨z, i, c, rfl, rfl, hz, he, q⟩ := h
 obtain ⟨t, rfl⟩ := rx
 obtain ⟨t', rfl⟩ := ry
 obtain ⟨j, h1, h2, h3, h4, h5⟩ := uK he
 have hl : z.cps.toList.length = z.length := by simp [Str.length]
 rw [hl] at h1 h4 h5
 have hn := sP
 exact tail_any (typeIs_str s z t) slot_str_getitem.lookup (getItem_str (c := c) (by
  have e1 : decide (i < -(2 ^ 63 : Int)) = false := decide_eq_false (by omega)
  have e2 : decide (i >= 2 ^ 63) = false := decide_eq_false (by omega)
  rw [e1, e2, Bool.or_false]) (by rw [h1]; simpa using h2) ⟨.str ⟨#[c]⟩, H, I.tok _, ⟨_, rfl⟩, q⟩) hs
theorem w6 (lo hi : Option Int) (n : Nat) : (sliceBounds lo hi none n).1 = ((HT.sIx n 0 lo : Nat) : Int) /\ (sliceBounds lo hi none n).2.1 = ((HT.sIx n n hi : Nat) : Int) /\ (sliceBounds lo hi none n).2.2 = 1 := by
 refine ⟨?_, ?_, rfl⟩
 ·cases lo with
  | none => simp [sliceBounds, HT.sIx]
  | some i =>
   simp only [sliceBounds, HT.sIx, Option.getD_none, show (1 : Int) > 0 by decide, if_true]
   by_cases h : i < 0
   · simp only [h, if_true] <;> omega
   · simp only [h, if_false] <;> omega
 ·cases hi with
  | none => simp [sliceBounds, HT.sIx]
  | some i =>
   simp only [sliceBounds, HT.sIx, Option.getD_none, show (1 : Int) > 0 by decide, if_true]
   by_cases h : i < 0
   · simp only [h, if_true] <;> omega
   · simp only [h, if_false] <;> omega
theorem wJ (its : List Value) (lo hi : Option Int) : slicePick its.toArray lo hi none = ((its.drop (HT.sIx its.length 0 lo)).take (HT.sIx its.length its.length hi - HT.sIx its.length 0 lo)).toArray := by
 obtain ⟨h1, h2, h3⟩ := w6 lo hi its.toArray.size
 unfold slicePick
 rw [h1, h2, h3]
 simp only [sliceRange_one, pick_run, List.size_toArray] <;> rfl
def aN8 (K : Frag) : V -> Option Int -> Option Int -> Hp -> VK -> Prop := fun x lo hi H Q => ∃ a xs, x = .ref a /\ SqL K H a xs /\ ∀ p, H p = none -> Q (.ref p) (upd H p (.lst (o4 xs lo hi)))
theorem aHI : SlR X (aN8 X.K) := by
 intro pins s σ H x v vl vu lo hi sl Q I rx hs pl pu h
 obtain ⟨a, xs, rfl, hx, q⟩ := h
 cases rx
 obtain ⟨its, r, ht, hz⟩ := I.list hx
 have hlen := r.length
 refine ⟨"list", _, slot_list_getitem.lookup, ht.isList.typeIs, ?_⟩
 refine wpAny_getItem_list_slice ht.isList hs pl pu .none (by simp) ?_ (by rw [List.size_toArray] <;> omega)
 rw [wJ, <- hlen]
 refine ⟨.ref s.heap.objs.size, _, I.laid (t' := s.toks) (o := .lst (o4 xs lo hi)) (fun b ob q => Heap.get?_push_of_some _ q) (Nat.le_refl _) ?_, rfl, q _ (I.hok.fresh (Nat.le_refl _))⟩
 exact ⟨Nat.le_trans (rE xs lo hi) hz, _, 0, (r.drop (HT.sIx xs.length 0 lo)).take (HT.sIx xs.length xs.length hi - HT.sIx xs.length 0 lo), Heap.get?_push_size _ rfl⟩
theorem cI : iX X (.type "tuple") (fun xs H Q => ∃ p ys, xs = [.ref p] /\ ((SqL X.K H p ys /\ ∀ l, H l = none -> Q (.ref l) (upd H l (.tup ys))) \/ (SqT X.K H p ys /\ Q (.ref p) H))) := by
 intro pins s σ H xs us Q I r h
 obtain ⟨p, ys, rfl, h⟩ := h
 obtain ⟨u, rfl, rx⟩ := p9 r
 cases rx
 rcases h with ⟨hq, q⟩ | ⟨hq, q⟩
 ·obtain ⟨its, r', pl, hz⟩ := I.list hq
  have hlen := r'.length
  refine call_tuple_list pl.isList (fun h' kp => ?_) (by simp only [List.size_toArray] <;> omega)
  have I1 : Inv X pins σ H { s with heap := h' } := I.kept (t' := s.toks) kp
  have I2 : Inv X pins σ (upd H h'.objs.size (.tup ys)) { s with heap := h'.push { cls := .type "tuple", data := .seq its.toArray } } :=
   I1.laid (t' := s.toks) (fun b o e => Heap.get?_push_of_some _ e) (Nat.le_refl _) (show cE X.prog X.w _ _ _ (.tup ys) from ⟨hz, its, r', IsTup.new _ _⟩)
  exact ⟨.ref h'.objs.size, _, I2, rfl, q _ (I1.hok.fresh (Nat.le_refl _))⟩
 ·obtain ⟨its, r', pl, hz⟩ := I.tuple hq
  exact call_tuple_same pl ⟨.ref p, H, I, rfl, q⟩
def tyV (K : Frag) (T : String) (x : V) (H : Hp) : Prop := match x with
 | .str _ => T = "str"
 | .int _ => T = "int"
 | .ref p => (T = "list" /\ ∃ xs, SqL K H p xs) \/ (T = "tuple" /\ ∃ o, K.lookup p = some o /\ o.cls = .type "tuple" /\ o.dict = none) \/
  (T = "dict" /\ ((∃ kvs, H p = some (.dK kvs)) \/ ∃ kvs, H p = some (.dT kvs))) \/ (T = "set" /\ ∃ S n, H p = some (.set S n))
 | _ => False
theorem aKF {pins : List (Addr × Obj)} {σ : St} {H : Hp} {s : Shared} {T : String} {x : V} {v : Value} (I : Inv X pins σ H s) (r : bC x v) (ty : tyV X.K T x H) :
  s.TypeIs v T /\ ∀ a, v = .ref a -> ∃ ob, s.heap.get? a = some ob /\ ob.dict = none := by
 cases x with
 | str z =>
  obtain ⟨t, rfl⟩ := r
  cases (show T = "str" from ty)
  exact ⟨typeIs_str s z t, fun _ e => nomatch e⟩
 | int i =>
  obtain ⟨t, rfl⟩ := r
  cases (show T = "int" from ty)
  exact ⟨typeIs_int s i t, fun _ e => nomatch e⟩
 | ref p =>
  cases r
  rcases ty with ⟨rfl, xs, hq⟩ | ⟨rfl, o, hk, hc, hd⟩ | ⟨rfl, hk⟩ | ⟨rfl, S, n, hk⟩
  ·obtain ⟨its, _, pl, _⟩ := I.list hq
   refine ⟨pl.isList.typeIs, fun a e => ?_⟩
   cases e
   obtain ⟨o, n, e, c, hd, _⟩ := pl
   exact ⟨o, e, hd⟩
  ·refine ⟨⟨o, I.kIn p o hk, hc⟩, fun a e => ?_⟩
   cases e
   exact ⟨o, I.kIn _ o hk, hd⟩
  ·have z : ∃ o, s.heap.get? p = some o /\ o.ExactDict := by
    rcases hk with ⟨kvs, hk⟩ | ⟨kvs, hk⟩
    ·obtain ⟨_, _, _, _, o, _, _, e, ex, _⟩ := I.hok p _ hk
     exact ⟨o, e, ex⟩
    ·obtain ⟨_, _, _, _, o, _, _, e, ex, _⟩ := I.hok p _ hk
     exact ⟨o, e, ex⟩
   obtain ⟨o, e, ex⟩ := z
   refine ⟨⟨o, e, ex.1⟩, fun a e2 => ?_⟩
   cases e2
   exact ⟨o, e, ex.2.1⟩
  ·obtain ⟨o, _, _, _, e, ex, _⟩ := I.hok p _ hk
   refine ⟨⟨o, e, ex.1⟩, fun a e2 => ?_⟩
   cases e2
   exact ⟨o, e, ex.2.1⟩
 | _ => exact False.elim ty
def tBM (K : Frag) (T : String) (r : V -> List V -> Hp -> VK -> Prop) (to : TE) (t : TA) : TE := fun σ H Q => to σ H fun x H1 => tyV K T x H1 /\ t σ H1 fun xs H2 => r x xs H2 Q
variable {o e : Expr} {es : List Expr} {to : TE} {t : TA} {name : Str} {apos cpos : Pos} {T id : String} {r : V -> List V -> Hp -> VK -> Prop}
theorem gO (pa : PlainAttrs T) (slot : Slot T name id) (hty : typeOf (.builtin id) = pure (.type "method_descriptor")) (hm : MtR X id r) (ho : PE X o to) (ha : PA X (e :: es) t)
  (hbase : attributeBase o name X.env (eval o X.env) = eval o X.env := by rfl)
  (hfew : ((backTo cpos (starEach (e :: es) X.env)).all (fun x => !x.1) && (backToKw cpos (keywordEach [] X.env)).all (fun x => x.1.isSome)
   && decide ((e :: es).length + ([] : List Keyword).length + (if ([] : List Keyword).isEmpty then 0 else 1) < 30)) = true := by rfl)
  (hline : (apos.endLine == cpos.line) = true := by rfl) (hs : starEach (e :: es) X.env = (false, eval e X.env) :: starEach es X.env := by rfl) (hplain : (backTo cpos (starEach es X.env)).any (·.1) = false := by rfl) :
  PE X (.Call (.Attribute o name apos) (e :: es) [] cpos) (tBM X.K T r to t) := by
 intro pins s σ H Q I h
 refine wpAny_Call_method_late hbase hfew hline rfl (thn (ho pins s σ H _ I h) fun v s1 zz0 => ?_)
 obtain ⟨x, H1, I1, r1, ty, q1⟩ := zz0
 obtain ⟨h1, h2⟩ := aKF I1 r1 ty
 refine ⟨T, id, pa, slot, hty, h1, h2, ?_⟩
 have hA := ha cpos pins s1 σ H1 _ I1 q1
 rw [hs] at hA ⊢
 refine Calls.callWith_builtin (by show (false || (backTo cpos (starEach es X.env)).any (·.1)) = false; rw [hplain] <;> rfl) (Calls.evalArgs_plain ?_)
 exact thn hA fun us s2 ⟨vs, H2, I2, r2, q2⟩ => hm pins s2 σ H2 x vs v us Q I2 r1 r2 q2
end
end L2
namespace L2
open PySem PySem.Spec PyProof.Rows
def MtM (X : Cx) (id : String) (r : V -> List V -> Hp -> VK -> Prop) : Prop :=
 ∀ (pins : List (Addr × Obj)) (s : Shared) (σ : St) (H : Hp) (x : V) (xs : List V) (v : Value) (us : List Value) (Q : VK), Inv X pins σ H s -> bC x v -> bN xs us -> r x xs H Q ->
  wpAny (model X.prog X.w) X.A (call (.builtin id) (v :: us)) (EP X pins σ Q) X.xe s
theorem bN.one : ∀ {x : V} {us : List Value}, bN [x] us -> ∃ u, us = [u] /\ bC x u := by
 intro x us h
 cases h with
 | cons r t =>
  cases t
  exact ⟨_, rfl, r⟩
section
variable {X : Cx} {pins : List (Addr × Obj)} {σ : St} {H : Hp} {s : Shared} {l b : Addr} {xs ys zs : List V}
theorem Inv.lset {its its' : List Value} {n : Nat} {f : Array Value -> Array Value} {t' : Nat} (I : Inv X pins σ H s) (hH : H l = some (.lst xs))
  (e : s.heap.get? l = some { cls := .type "list", data := .seq its.toArray n }) (hf : f its.toArray = its'.toArray) (hv : bN ys its') (hz : ys.length <= sizeLine) :
  Inv X pins σ (upd H l (.lst ys)) { s with heap := s.heap.update l (Obj.mapSeq f), toks := t' } := by
 have q := PySem.IsL.update e f
 rw [hf] at q
 refine I.write (x := l) (e := l) (by rw [hH]; exact trivial) (.inl rfl) (fun b' u hb hu => (Heap.get?_update_other s.heap (Obj.mapSeq f) (Ne.symm hb)).trans hu) ⟨_, q⟩ ?_
 exact ⟨hz, its', _, hv, q⟩
theorem Inv.lnew {its : List Value} {t' : Nat} (I : Inv X pins σ H s) (hv : bN ys its) (hz : ys.length <= sizeLine) :
  Inv X pins σ (upd H s.heap.objs.size (.lst ys)) { s with heap := s.heap.push { cls := .type "list", data := .seq its.toArray }, toks := t' } :=
 I.laid (fun _ _ q => Heap.get?_push_of_some _ q) (Nat.le_refl _) ⟨hz, its, 0, hv, Heap.get?_push_size _ rfl⟩
theorem Inv.fresh (I : Inv X pins σ H s) : H s.heap.objs.size = none := I.hok.fresh (Nat.le_refl _)
theorem Inv.lstM (I : Inv X pins σ H s) (hH : H l = some (.lst xs)) : xs.length <= sizeLine /\ ∃ (its : List Value) (n : Nat), bN xs its /\ xs.length = its.length /\ s.heap.get? l = some { cls := .type "list", data := .seq its.toArray n } := by
 obtain ⟨z, its, n, r, e⟩ := I.hok l _ hH
 exact ⟨z, its, n, r, r.length, e⟩
end
section
variable {X : Cx}
def z5 : V -> List V -> Hp -> VK -> Prop := fun x vs H Q => ∃ l xs y, x = .ref l /\ vs = [y] /\ H l = some (.lst xs) /\ xs.length < sizeLine /\ Q .non (upd H l (.lst (xs ++ [y])))
theorem eF : MtM X "list.append" z5 := by
 intro pins s σ H x vs v us Q I rx rv h
 obtain ⟨l, xs, y, rfl, rfl, hH, hz, q⟩ := h
 cases rx
 obtain ⟨u, rfl, ru⟩ := rv.one
 obtain ⟨z, its, n, r, hl, e⟩ := I.lstM hH
 refine call_meets F.slot_list_append ⟨_, e, rfl⟩ F.entry_list_append (F.args_list_append_2 _ _) (PySem.list_append l its.toArray n u (by rw [List.size_toArray]; omega)) ⟨e, ?_⟩
 refine ⟨.non, _, I.lset (its' := its ++ [u]) hH e (by simp) (r.append (.cons ru .nil)) ?_, rfl, q⟩
 rw [List.length_append, List.length_singleton]
 omega
end
end L2
namespace Att
open PySem PySem.W PySem.Calls PyProof.Rows
theorem sS {P : Params} {h : Heap} : ∀ (ns : List Int) (vs : List Value), WellAll P h vs (ns.map WData.int) -> IntsAre vs ns := by
 intro ns
 induction ns with
 | nil =>
  intro vs w
  rw [List.map_nil] at w
  cases w
  exact .nil
 | cons n ns ih =>
  intro vs w
  rw [List.map_cons] at w
  cases w with
  | cons a b =>
   cases a
   exact .cons _ _ (ih _ b)
theorem aC1 {l : OpenLaw} {n : Nat} (hn : l.most = some n) {P : Params} {h : Heap} {args : List WData} {vals : List Value}
  (hpre : l.row.toRowW.claim.pre args = true) (hwl : WellAll P h vals args) :
  ∃ a vs ns, vals = [Value.ref a] /\ args = [WData.list (ns.map WData.int)] /\ h.get? a = some { cls := .type "list", data := .seq vs.toArray } /\ IntsAre vs ns /\ ns.length <= n := by
 have hsh : WShape.hasAll [] args [.list .int] = true := (pre_splitW hpre).1
 have hc : l.pre.holds [] { args := args } = true := (pre_splitW hpre).2
 obtain ⟨d, r, rfl, h1, h2⟩ := hasAllW_cons hsh
 obtain rfl := hasAllW_nil h2
 obtain ⟨xs, rfl, h3⟩ := hasW_list h1
 obtain ⟨ns, rfl⟩ := items_int h3
 have hlen : ns.length <= n := by
  unfold OpenLaw.pre at hc
  have h4 : (WTm.not (.lt (.lit (.int (n : Int))) (.len (.arg 0)))).holds [] { args := [.list (ns.map .int)] } = true := by
   have h4 := (holds_andW hc).1
   rw [hn] at h4
   exact h4
  have h5 := condW_of h4 (w_not (w_lt w_lit (w_len_list (w_arg rfl))))
  rw [List.length_map] at h5
  refine Nat.le_of_not_lt fun q => ?_
  have q' : (n : Int) < ((ns.length : Nat) : Int) := by omega
  first
   | (rw [decide_eq_true q'] at h5; exact absurd h5 (by decide))
   | (simp at h5; omega)
 cases hwl with
 | cons w1 w2 =>
  cases w2
  cases w1 with
  | list ho hall => exact ⟨_, _, ns, rfl, rfl, ho, sS ns _ hall, hlen⟩
theorem aC2 (l : OpenLaw) (args : List WData) : l.row.toRowW.claim.post args (.bool true) args = true :=
 postW_of (r := l.row.toRowW) (X := (true == true))
  (show WShape.has [] (.bool true) .bool = true by first | rfl | decide | simp [WShape.has, WShape.arms, WShape.armsAll])
  (show (WTm.eq .res (.lit (.bool true))).value [] { args := args, res := some (.bool true), after := args } = some (.bool (true == true)) from w_eq_bool (w_res rfl) w_lit) rfl
theorem attach_call {l : OpenLaw} {n : Nat} {q : Program} {loose : List Str} {XP : (Str -> Option Value) -> Heap -> Prop} {YP : World -> Heap -> Prop} {d : DefRec}
  (hn : l.most = some n) (hdf : d.params.defaults = [])
  (call : ∀ (w : World) (s₀ s₁ : Shared) (mg mb : Str -> Option Value) (fa : Addr) (o : Obj) (pm cd doc : Value) (a : Addr) (vs : List Value) (ns : List Int),
   Ground q loose [] XP w s₀ mg mb s₁.heap -> YP w s₁.heap ->
   s₁.heap.get? fa = some o -> o.data = .func (docDef d.name d.params d.body d.scope pm cd doc) -> s₁.heap.CodeRec cd d.name -> mg d.name = some (.ref fa) ->
   s₁.heap.get? a = some { cls := .type "list", data := .seq vs.toArray } -> IntsAre vs ns -> ns.length <= n -> s₁.gens = #[] ->
   codeAny (model l.prog w) callerA (.call (.ref fa) ⟨[.ref a], []⟩) (fun r s' => r = .ok (.ret (.bool true)) /\ OldK s₁.heap s'.heap /\ s'.os = s₁.os /\ AllBare s'.gens) s₁) :
  WalkO q loose XP YP l.row.toRowW d [] (fun f vs => PySem.call f vs) := by
 intro w s₀ s₁ mg mb G Y fa o pm cd doc dV kV ho hd hcd hD hmg hg args vals as hpre hlay hrd hwl hlo
 obtain rfl : dV = .none := Dflts.none hD hdf
 obtain rfl : kV = .none := Dflts.noKw hD
 obtain ⟨a, vs, ns, rfl, rfl, hobj, hints, hlen⟩ := aC1 hn hpre hwl
 refine enter_call (codeAny_mono (call w s₀ s₁ mg mb fa o pm cd doc a vs ns G Y ho (fd_plain hd) hcd hmg hobj hints hlen hg) fun r s' hq => ?_)
 obtain ⟨rfl, h2, h3, h4⟩ := hq
 exact ⟨.inl ⟨.bool true, .bool true, [], rfl, fun _ => rfl, .bool true, aC2 l _, fun _ => ⟨List.Pairwise.nil, fun _ hm => (nomatch hm)⟩⟩, h2, h3, h4⟩
section
variable {prog : Program} {w : World} {A : Around} {E : Value -> Shared -> Prop} {s : Shared} {K : Frag}
noncomputable def aPE (h : Heap) (L d : Addr) : List (Addr × Obj) := (List.range h.objs.size).filterMap fun a => if a = L \/ a = d then none else (h.get? a).map fun o => (a, o)
end
end Att
namespace L2
open PySem PySem.Spec PyProof.Rows
theorem vS : ∀ {vs : List Value} {ns : List Int}, IntsAre vs ns -> bN (ns.map V.int) vs
 | _, _, .nil => .nil
 | _, _, .cons n t h => .cons ⟨t, rfl⟩ (vS h)
end L2
namespace L2
open PySem PySem.Spec PyProof.Rows
abbrev KOf {K : Frag} {h : Heap} (_ : K.In h) : Frag := K
end L2
namespace L2
open PySem PySem.Spec PyProof.Rows
noncomputable def j7 (s : Stmt) (j : Nat) : Stmt := match s with
 | .ClassDef _ _ _ body _ _ _ _ _ _ _ => body.getD j (.Pass ⟨0, 0, 0, 0⟩)
 | _ => .Pass ⟨0, 0, 0, 0⟩
noncomputable def fU (s : Stmt) : Arguments := match s with
 | .FunctionDef _ a _ _ _ _ _ _ _ _ => a
 | _ => { posonlyargs := [], args := [], vararg := none, kwonlyargs := [], kw_defaults := [], kwarg := none, defaults := [] }
noncomputable def c8 (s : Stmt) : List Stmt := match s with
 | .FunctionDef _ _ b _ _ _ _ _ _ _ => b
 | _ => []
noncomputable def aO (s : Stmt) : Scope := match s with
 | .FunctionDef _ _ _ _ _ _ sc _ _ _ => sc
 | _ => { kind := .function, names := [], isGenerator := false, isCoroutine := false }
abbrev CX0 : CXT := fun _ _ _ _ _ _ => False
abbrev E0 : XK := fun _ _ _ => False
structure Fun (K : Frag) (x qual : Str) (st : Stmt) (f : Addr) (fd : FuncData) : Prop where
 ex : ∃ (oc : Value) (od : Option Addr) (kV doc pm : Value) (an : Option Addr) (cdv ct : Value) (osl : Array (Option Value)),
  fd = PySem.W.fnOf x qual (fU st) (c8 st) (aO st) .none kV doc pm an cdv ct /\ K.lookup f = some ⟨oc, od, .func fd, osl⟩ /\ PySem.W.codeIn K cdv qual = true
 kp : PySem.W.keepIn K (.ref f) = true
section
variable {P : Program} {w : World} {K : Frag} {mg : Str -> Option Value} {base : Heap}
theorem Fun.ok {x qual : Str} {st : Stmt} {f : Addr} {fd : FuncData} {N ps : List Str} {k : Nat} {sp : Sp} (F : Fun K x qual st f fd) (S : FnScope N ps (aO st)) (len : ∀ vs H Q E, sp vs H Q E -> vs.length = ps.length)
  (hbody : ∀ (cdv : Value) (A : Around) (outer : List Env) (s : Shared) (H : Hp) (vs : List V) (Q : VK) (E : XK), Room k (A.deeper (envOfC qual (aO st) s.heap.objs.size f cdv)) -> sp vs H Q E ->
   ∃ t, PSs (jM CX0 P w K mg base N qual (aO st) f cdv A outer s H E).nox (c8 st) t /\ t { nx := fun _ H' => Q .non H', rt := Q } (start N vs) H) : FnOk P w K mg base CX0 (k + 1) f fd ps sp := by
 obtain ⟨oc, od, kV, doc, pm, an, cdv, ct, osl, rfl, lk, hcd⟩ := F.ex
 refine aBH lk hcd S len fun A outer s H vs Q E hr hsp => ?_
 obtain ⟨t, h, q⟩ := hbody cdv A outer s H vs Q E hr hsp
 exact ⟨t, h.nox, q⟩
theorem Fun.binds {x qual : Str} {st : Stmt} {f : Addr} {fd : FuncData} {ps : List Str} (F : Fun K x qual st f fd)
  (h : ∀ (kV doc pm : Value) (an : Option Addr) (cdv ct : Value) (us : List Value), us.length = ps.length -> bindArgs (PySem.W.fnOf x qual (fU st) (c8 st) (aO st) .none kV doc pm an cdv ct) ⟨us, []⟩ = pure (ps.zip us)) : gN K fd ps [] := by
 obtain ⟨oc, od, kV, doc, pm, an, cdv, ct, osl, rfl, lk, hcd⟩ := F.ex
 exact .all (h kV doc pm an cdv ct)
theorem w8 {x qual : Str} {st : Stmt} {f : Addr} {oc : Value} {od an : Option Addr} {osl : Array (Option Value)} {kV doc pm cdv ct : Value} (l : K.lookup f = some ⟨oc, od, .func (PySem.W.fnOf x qual (fU st) (c8 st) (aO st) .none kV doc pm an cdv ct), osl⟩)
 (c : PySem.W.codeIn K cdv qual = true) (k : PySem.W.keepIn K (.ref f) = true) : Fun K x qual st f (PySem.W.fnOf x qual (fU st) (c8 st) (aO st) .none kV doc pm an cdv ct) := ⟨⟨oc, od, kV, doc, pm, an, cdv, ct, osl, rfl, l, c⟩, k⟩
end
section
variable {X : Cx}
theorem pv (i : Nat) {x : Str} {pos : Pos} (hN : X.N[i]? = some x := by rfl) (hv : Vis X.env.scope x := by exact aJP rfl) (hd : (x == ("__debug__" : Str)) = false := by decide)
 (hcd : (x == ("__classdict__" : Str)) = false := by decide) : PE X (.Name x pos) (j3 i) := aJQ hN hv hd hcd
end
theorem w9 {A B : Prop} (h : B) : if false = true then A else B := by
 rw [if_neg Bool.false_ne_true]
 exact h
theorem xA {A B : Prop} (h : A) : if true = true then A else B := by
 rw [if_pos rfl]
 exact h
def aR (H H' : Hp) : Prop := ∀ b o, H b = some o -> H' b = some o
theorem aR.seq {K : Frag} {H H' : Hp} {a : Addr} {xs : List V} (e : aR H H') (h : SqL K H a xs) : SqL K H' a xs := by
 rcases h with (h | ⟨o, h⟩) | h
 · exact .inl (.inl (e _ _ h))
 · exact .inl (.inr ⟨o, e _ _ h⟩)
 · exact .inr h
end L2
namespace L2
open PySem PySem.Spec PyProof.Rows
theorem aBK {env : Env} : ∀ (names : List (Str × NameKind)) (acc : List (Str × Addr)), (∀ x ∈ names, x.2 = .free -> ∃ c, env.cells.lookup x.1 = some c) ->
  (∀ x c, acc.lookup x = some c -> env.cells.lookup x = some c) ->
  ∃ cl, (forIn names acc fun x r => (if (x.2 == NameKind.free) = true then (do let a <- cellOf env x.1; pure (ForInStep.yield ((x.1, a) :: r))) else pure (ForInStep.yield r)) : Sem (List (Str × Addr))) = pure cl /\
   (∀ x c, cl.lookup x = some c -> env.cells.lookup x = some c) /\ (∀ x ∈ names, x.2 = .free -> ∃ c, cl.lookup x.1 = some c) /\ ∀ x c, acc.lookup x = some c -> ∃ c', cl.lookup x = some c' := by
 intro names
 induction names with
 | nil => intro acc _ h; exact ⟨acc, rfl, h, fun x hx => absurd hx (by simp), fun x c e => ⟨c, e⟩⟩
 | cons x r ih =>
  intro acc hf h
  obtain ⟨n, k⟩ := x
  by_cases hk : k = .free
  ·subst hk
   obtain ⟨c, hc⟩ := hf (n, .free) List.mem_cons_self rfl
   have hc : env.cells.lookup n = some c := hc
   obtain ⟨cl, e1, e2, e3, e4⟩ := ih ((n, c) :: acc) (fun y hy => hf y (List.mem_cons_of_mem _ hy)) (fun y d e => by
    rw [List.lookup_cons] at e
    cases q : y == n with
    | true => rw [q] at e; cases e; have := eq_of_beq q; subst this; exact hc
    | false => rw [q] at e; exact h y d e)
   refine ⟨cl, ?_, e2, fun y hy hyf => ?_, fun y d e => ?_⟩
   ·rw [List.forIn_cons]
    simp only [beq_self_eq_true, if_true]
    unfold cellOf
    simp only [hc, pure_bind]
    exact e1
   ·rcases List.mem_cons.mp hy with z | z
    ·subst z
     exact e4 n c (by rw [List.lookup_cons]; simp)
    ·exact e3 y z hyf
   ·by_cases q : y = n
    ·subst q; exact e4 y c (by rw [List.lookup_cons]; simp)
    ·exact e4 y d (by rw [List.lookup_cons, beq_false_of_ne q]; exact e)
  ·obtain ⟨cl, e1, e2, e3, e4⟩ := ih acc (fun y hy => hf y (List.mem_cons_of_mem _ hy)) h
   refine ⟨cl, ?_, e2, fun y hy hyf => ?_, e4⟩
   ·rw [List.forIn_cons]
    have : (k == NameKind.free) = false := by simpa using hk
    simp only [this, Bool.false_eq_true, if_false, pure_bind]
    exact e1
   ·rcases List.mem_cons.mp hy with z | z
    ·subst z; exact absurd hyf hk
    ·exact e3 y z hyf
theorem sT {env : Env} {scope : Scope} (hf : ∀ x ∈ scope.names, x.2 = .free -> ∃ c, env.cells.lookup x.1 = some c) :
  ∃ cl, closureFor scope env = pure cl /\ (∀ x c, cl.lookup x = some c -> env.cells.lookup x = some c) /\ ∀ x ∈ scope.names, x.2 = .free -> ∃ c, cl.lookup x.1 = some c := by
 obtain ⟨cl, e1, e2, e3, _⟩ := aBK scope.names [] hf (fun x c e => by simp at e)
 refine ⟨cl, ?_, e2, e3⟩
 unfold closureFor
 first
  | exact e1
  | (rw [<- e1]; rfl)
  | (simp only [bind_pure]; exact e1)
theorem gE {env : Env} : ∀ {names : List (Str × NameKind)} {x : Str} {k : NameKind},
  (names.map fun (n, k) => if (k == NameKind.free && env.scope.kind == .function && env.kindOf n == some .cell) then (n, NameKind.cell) else (n, k)).lookup x = some k ->
  k = .cell \/ k = .free -> (∀ y ∈ names, y.2 ≠ .cell) -> (x, NameKind.free) ∈ names
 | [], _, _, h, _, _ => by simp at h
 | (n, k0) :: r, x, k, h, hk, hc => by
  have ih := @gE env r x k
  rw [List.map_cons] at h
  dsimp only at h
  by_cases hx : x = n
  ·subst hx
   by_cases hcond : (k0 == NameKind.free && env.scope.kind == .function && env.kindOf x == some .cell) = true
   ·have : k0 = .free := by
     simp only [Bool.and_eq_true] at hcond
     exact eq_of_beq hcond.1.1
    subst this
    exact List.mem_cons_self
   ·rw [if_neg hcond, List.lookup_cons] at h
    simp only [beq_self_eq_true] at h
    cases h
    rcases hk with rfl | rfl
    ·exact absurd rfl (hc _ List.mem_cons_self)
    ·exact List.mem_cons_self
  ·have hb : (x == n) = false := beq_false_of_ne hx
   refine List.mem_cons_of_mem _ (ih ?_ hk fun y hy => hc y (List.mem_cons_of_mem _ hy))
   split at h
   ·rw [List.lookup_cons, hb] at h; exact h
   ·rw [List.lookup_cons, hb] at h; exact h
noncomputable def gF (X : Cx) (N : List Str) (scope : Scope) (cl : List (Str × Addr)) (C : Addr) (s : Shared) (H : Hp) (fp : List Addr) : Cx where
 prog := X.prog
 w := X.w
 K := X.K
 mg := X.mg
 base := X.base
 A := X.A
 N := N
 s₀ := s
 H₀ := H
 env := compEnvC scope cl C X.env
 outer := X.stack
 stack := X.stack
 ex := fp
 calm := X.calm
 fn := fun _ => false
 pn := []
 xe := fun _ _ => False
inductive Caps (X : Cx) (scope : Scope) : List Str -> List (Option Nat) -> Prop
 | nil : Caps X scope [] []
 | own {x : Str} {N : List Str} {js : List (Option Nat)} (t : Caps X scope N js) : Caps X scope (x :: N) (none :: js)
 | cap {x : Str} {j : Nat} {N : List Str} {js : List (Option Nat)} (h1 : X.N[j]? = some x) (h2 : X.env.kindOf x = some .cell \/ X.env.kindOf x = some .free)
  (h3 : (relabel scope X.env).names.lookup x = some .cell \/ (relabel scope X.env).names.lookup x = some .free) (t : Caps X scope N js) : Caps X scope (x :: N) (some j :: js)
theorem Caps.len {X : Cx} {scope : Scope} {N : List Str} {js : List (Option Nat)} (c : Caps X scope N js) : js.length = N.length := by
 induction c with
 | nil => rfl
 | own _ ih => simp [ih]
 | cap _ _ _ _ ih => simp [ih]
theorem Caps.get {X : Cx} {scope : Scope} {N : List Str} {js : List (Option Nat)} (c : Caps X scope N js) : ∀ {i j : Nat} {x : Str}, js[i]? = some (some j) -> N[i]? = some x ->
  X.N[j]? = some x /\ (X.env.kindOf x = some .cell \/ X.env.kindOf x = some .free) /\ ((relabel scope X.env).names.lookup x = some .cell \/ (relabel scope X.env).names.lookup x = some .free) := by
 induction c with
 | nil => intro i j x h; simp at h
 | own _ ih =>
  intro i j x h1 h2
  cases i with
  | zero => simp at h1
  | succ i => exact ih (by simpa using h1) (by simpa using h2)
 | cap a b d _ ih =>
  intro i j x h1 h2
  cases i with
  | zero =>
   simp at h1 h2
   subst h1 h2
   exact ⟨a, b, d⟩
  | succ i => exact ih (by simpa using h1) (by simpa using h2)
noncomputable def j8 (js : List (Option Nat)) (σ : St) : St := js.map fun o => o.bind fun j => (σ[j]?).join
def g9 (σ σ' : St) : Prop := σ'.length = σ.length /\ ∀ (i : Nat) v, σ[i]? = some (some v) -> σ'[i]? = some (some v)
theorem g9.refl (σ : St) : g9 σ σ := ⟨rfl, fun _ _ h => h⟩
section
variable {X : Cx}
def PIf (X : Cx) (ifs : List Expr) (t : TT) : Prop :=
 ∀ (pins : List (Addr × Obj)) (s : Shared) (σ : St) (H : Hp) (Q : Bool -> Hp -> Prop), Inv X pins σ H s -> t σ H Q ->
  wpAny (model X.prog X.w) X.A (forIn ifs true fun c r => if r = true then do let ok <- isTrue c X.env (eval c X.env); pure (ForInStep.yield ok) else pure (ForInStep.yield r)) (TP X pins σ Q) X.xe s
def aN9 : TT := fun _ H Q => Q true H
theorem dS : PIf X [] aN9 := by
 intro pins s σ H Q I h
 show wpAny _ _ (pure true) _ _ s
 exact wpAny_pure ⟨H, I, h⟩
end
def uL (X : Cx) (N : List Str) (scope : Scope) (js : List (Option Nat)) (tg elt : Expr) (ifs : List Expr) (σ : St) (x : V) (H : Hp) (R : Option V -> Hp -> Prop) : Prop :=
 ∀ (cl : List (Str × Addr)) (C : Addr) (s : Shared) (H0 : Hp) (fp : List Addr), ∃ (g : TG) (tt : TT) (te : TE), PG (gF X N scope cl C s H0 fp) tg g /\ PIf (gF X N scope cl C s H0 fp) ifs tt /\ PE (gF X N scope cl C s H0 fp) elt te /\
  ∀ σ0, g9 (j8 js σ) σ0 -> g x σ0 H fun σ2 H2 => g9 (j8 js σ) σ2 /\ tt σ2 H2 fun b H3 => if b = true then te σ2 H3 fun y H4 => R (some y) H4 else R none H3
def compK (X : Cx) (N : List Str) (scope : Scope) (js : List (Option Nat)) (tg elt : Expr) (ifs : List Expr) (σ : St) (Q : VK) (J : It) (H1 : Hp) : Prop := ∃ (n : Nat) (W : Nat -> List V -> Hp -> Prop), n <= sizeLine /\ W 0 [] H1 /\
 ∀ i ys H, W i ys H -> ys.length <= i /\ ((J.stop i H /\ ∀ p, H p = none -> Q (.ref p) (upd H p (.lst ys))) \/ (J.go i H /\ i < n /\ ∃ R : Option V -> Hp -> Prop, (∀ y H2, R (some y) H2 -> W (i + 1) (ys ++ [y]) H2) /\ (∀ H2, R none H2 -> W (i + 1) ys H2) /\
  ∀ x H', J.yld i H x H' -> uL X N scope js tg elt ifs σ x H' R))
def sU (X : Cx) (N : List Str) (scope : Scope) (js : List (Option Nat)) (tg elt : Expr) (ifs : List Expr) (wi : TI) : TE := fun σ H Q => wi σ H (compK X N scope js tg elt ifs σ Q)
end L2
namespace L2
open PySem PySem.Spec PyProof.Rows
section
variable {prog : Program} {w : World} {A : Around} {R : Result -> Shared -> Prop} {s : Shared}
theorem xB {elt target iter : Expr} {ifs : List Expr} {scope : Scope} {pos : Pos} {it acc : Value} {env : Env} (I : Nat -> Shared -> Prop)
  (turn : ∀ n s, I n s -> wpAny (model prog w) A (pyNext it) (fun r s1 => match r with
   | none => R (.ok .next) s1
   | some v => wpAny (model prog w) A (letOwnedTupleGo target it v) (fun _ s1' => wpAny (model prog w) A (assign target env v) (fun _ s2 =>
    wpAny (model prog w) A (forIn ifs true fun c r => if r = true then do let ok <- isTrue c env (eval c env); pure (ForInStep.yield ok) else pure (ForInStep.yield r)) (fun ok s3 =>
     if ok = true then wpAny (model prog w) A (eval elt env) (fun x s4 =>
      wpAny (model prog w) A (call (.builtin "list.append") [acc, x]) (fun _ s5 => ∃ m, m < n /\ I m s5) (fun _ _ => False) s4) (fun _ _ => False) s3
     else ∃ m, m < n /\ I m s3) (fun _ _ => False) s2) (fun _ _ => False) s1') (fun _ _ => False) s1) (fun _ _ => False) s)
  (n : Nat) (h : I n s) :
  codeAny (model prog w) A (.compLoop (.ListComp elt [⟨target, iter, ifs, 0⟩] scope pos) 0 it acc env) R s := by
 refine codeAny_loop rfl I (fun n s hI => ?_) n h
 show wpAny _ A ((compTurn (.ListComp elt [⟨target, iter, ifs, 0⟩] scope pos) 0 it acc env).onRaise (fun x => do noteFrame x env; theTreesLotGoes x)) _ _ s
 refine wpAny_noted ?_
 rw [compTurn_list]
 have nr : ∀ {α : Type} {t : Sem α} {Q : α -> Shared -> Prop} {E' : Value -> Shared -> Prop} {s : Shared}, wpAny (model prog w) A t Q (fun _ _ => False) s -> wpAny (model prog w) A t Q E' s := fun h => wpAny_mono h (fun _ _ q => q) fun _ _ f => f.elim
 refine wpAny_bind (wpAny_standAt (wpAny_bind (wpAny_mono (turn n s hI) (fun r s₁ h₁ => ?_) fun _ _ h' => h'.elim)))
 cases r with
 | none => exact wpAny_pure h₁
 | some v =>
  refine wpAny_bind (wpAny_mono h₁ (fun _ s1' h1' => ?_) fun _ _ f => f.elim)
  refine wpAny_bind (wpAny_mono h1' (fun _ s₂ h₂ => wpAny_bind (wpAny_mono h₂ (fun ok s₃ h₃ => ?_) fun _ _ h' => h'.elim)) fun _ _ h' => h'.elim)
  cases ok with
  | false => exact wpAny_pure ⟨rfl, h₃⟩
  | true =>
   exact wpAny_bind (wpAny_bind (wpAny_mono h₃ (fun x s₄ h₄ => wpAny_bind (wpAny_mono h₄ (fun _ s₅ h₅ => wpAny_pure (wpAny_pure ⟨rfl, h₅⟩)) fun _ _ h' => h'.elim)) fun _ _ h' => h'.elim))
end
theorem HOk.track {P : Program} {w : World} {H : Hp} {h : Heap} {a : Addr} {o : HO} (x : HOk P w H h) (hn : H a = none) (new : cE P w (upd H a o) h a o) : HOk P w (upd H a o) h := fun b u e => by
 by_cases hb : b = a
 ·subst hb; rw [aW] at e; cases e; exact new
 ·rw [aG hb] at e
  exact (x b u e).stay (fun c v _ q => q) (fun c q => by rw [aG (bG q hn)]; exact q) (fun c xs q => by rw [aG (bG q hn)]; exact q) fun c xs q => by rw [aG (bG q hn)]; exact q
section
variable {X : Cx} {pins : List (Addr × Obj)} {σ : St}
structure CompEnd (X : Cx) (pins : List (Addr × Obj)) (σ : St) (D C : Addr) (ys : List V) (H' : Hp) (s' : Shared) : Prop where
 inv : Inv X pins σ (upd H' D (.lst ys)) s'
 ns : ∃ m, s'.heap.Ns C m
 fp : j5 X pins (upd H' D (.lst ys)) C
 nD : H' D = none
theorem CompEnd.gone {D C : Addr} {ys : List V} {H H' : Hp} {s' : Shared} {h'' : Heap} {σ' : St} (I : Inv X pins σ' H s') (fp : j5 X pins H C) (hs : Heap.SameBut C s'.heap h'') : Inv X pins σ' H { s' with heap := h'' } :=
 I.turned (it := C) (t' := s'.toks) (fun b o hb e => (hs.2 b hb).trans e) fp.1 fp.2.1 fp.2.2.2.1 fp.2.2.2.2.1 fp.2.2.2.2.2
theorem xC {prog : Program} {w : World} {A : Around} {E : Value -> Shared -> Prop} {s : Shared} {l : Addr} {items : Array Value} {nn : Nat} {x : Value} {Q : Value -> Shared -> Prop} (e : s.heap.get? l = some { cls := .type "list", dict := none, data := .seq items nn }) (hz : items.size <= sizeLine)
  (hQ : ∀ nn' h', h'.get? l = some { cls := .type "list", dict := none, data := .seq (items.push x) nn' } -> Heap.SameBut l s.heap h' -> Q .none { s with heap := h' }) :
  wpAny (model prog w) A (call (.builtin "list.append") [.ref l, x]) Q E s := by
 refine call_meets F.slot_list_append ⟨_, e, rfl⟩ F.entry_list_append (F.args_list_append_2 _ _) (PySem.list_append l items nn x (by omega)) ⟨e, ?_⟩
 exact hQ _ _ (Heap.get?_update_self _ e rfl) (Heap.SameBut.update ..)
theorem sV {N : List Str} {js : List (Option Nat)} {scope : Scope} {tg elt iter : Expr} {ifs : List Expr} {cl : List (Str × Addr)} {pos : Pos} {it : Addr} {fp : List Addr} {tn : Nat -> Heap -> Prop} {J : It} {s2 : Shared} {H2 : Hp} {E : Value -> Shared -> Prop}
  {RR : Value -> Addr -> Result -> Shared -> Prop} {Q : VK} (hc : X.calm = true) (caps : Caps X scope N js) (hkind : scope.kind = .function) (hcell : ∀ y ∈ scope.names, y.2 ≠ .cell)
  (hcl1 : ∀ x c, cl.lookup x = some c -> X.env.cells.lookup x = some c) (hcl2 : ∀ x ∈ scope.names, x.2 = .free -> ∃ c, cl.lookup x.1 = some c)
  (I : Inv X pins σ H2 s2) (T : Turn X.prog X.w X.K tg J fp it tn) (st2 : tn 0 s2.heap) (f2 : ∀ b ∈ fp, j5 X pins H2 b) (n : Nat) (W : Nat -> List V -> Hp -> Prop) (hn : n <= sizeLine) (w0 : W 0 [] H2)
  (turn : ∀ i ys H, W i ys H -> ys.length <= i /\ ((J.stop i H /\ ∀ p, H p = none -> Q (.ref p) (upd H p (.lst ys))) \/ (J.go i H /\ i < n /\ ∃ R : Option V -> Hp -> Prop, (∀ y H2, R (some y) H2 -> W (i + 1) (ys ++ [y]) H2) /\ (∀ H2, R none H2 -> W (i + 1) ys H2) /\
   ∀ x H', J.yld i H x H' -> uL X N scope js tg elt ifs σ x H' R)))
  (hRR : ∀ D C ys H' s', CompEnd X pins σ D C ys H' s' -> Q (.ref D) (upd H' D (.lst ys)) -> RR (.ref D) C (.ok .next) s') :
  wpAny (model X.prog X.w) X.A (newList []) (fun acc s3 => wpAny (model X.prog X.w) X.A (newFunctionEnv scope X.env.globals cl [] X.env.qual none .none (some X.env)) (fun cenv s4 =>
   codeAny (model X.prog X.w) X.A (.compStart (.ListComp elt [⟨tg, iter, ifs, 0⟩] scope pos) 0 (.ref it) acc { cenv with scope := relabel scope X.env }) (RR acc cenv.locals) s4) E s3) E s2 := by
 refine wpAny_newObj_type (wpAny_newFunctionEnv hcell (by intro y hy; simp at hy) (fun h₁ hns₁ hsb₁ => ?_) hkind)
 dsimp only at hns₁ hsb₁ ⊢
 generalize hHh : s2.heap.push { cls := .type "list", dict := none, data := .seq ([] : List Value).toArray } = Hh at hns₁ hsb₁ ⊢
 have hC : Hh.objs.size = s2.heap.objs.size + 1 := by rw [<- hHh, Heap.size_push]
 have hDC : s2.heap.objs.size ≠ Hh.objs.size := by rw [hC]; exact Nat.ne_of_lt (Nat.lt_succ_self _)
 have hCle : s2.heap.objs.size <= Hh.objs.size := by rw [hC]; exact Nat.le_succ _
 have old : ∀ b o, s2.heap.get? b = some o -> h₁.get? b = some o := fun b o e => hsb₁.extBut b o (by rw [hC]; exact Nat.ne_of_lt (Nat.lt_succ_of_lt (Heap.lt_size e))) (Heap.get?_push_of_some _ (hHh ▸ Heap.get?_push_of_some _ e))
 have haccO : h₁.get? s2.heap.objs.size = some { cls := .type "list", dict := none, data := .seq ([] : List Value).toArray } := hsb₁.extBut _ _ hDC (Heap.get?_push_of_some _ (hHh ▸ Heap.get?_push_size _ rfl))
 have st1 : tn 0 h₁ := T.keep _ _ _ st2 fun b hb o e => old b o e
 have fplt : ∀ b ∈ fp, b < s2.heap.objs.size := fun b hb => by
  obtain ⟨o, e, _⟩ := T.obj _ _ st2 b hb
  exact Heap.lt_size e
 have fsIn : ∀ b ∈ frs X.stack, b < s2.heap.objs.size := fun b hb => by
  rcases List.mem_cons.mp (I.stkSub b hb) with z | z
  ·rw [z]; exact I.lt
  ·refine Nat.lt_of_not_le fun hle => I.nofs hle z
 have fpC : ∀ b ∈ fp, b ≠ Hh.objs.size := fun b hb z => Nat.lt_irrefl _ (Nat.lt_of_lt_of_le (fplt b hb) (z ▸ hCle))
 generalize hD : s2.heap.objs.size = D at *
 generalize hCc : Hh.objs.size = C at *
 let X' := gF X N scope cl C s2 H2 fp
 have ok' : X'.Ok := by
  refine ⟨I.ok.mod, hkind, I.ok.glob, I.ok.blt, by show s2.heap.objs.size <= C; rw [hD]; exact hCle, fun x y c e1 e2 => I.ok.inj x y c (hcl1 x c e1) (hcl1 y c e2), fun x hx => ?_, fun x c z => absurd (show false = true from z) Bool.false_ne_true, I.ok.hd, I.ok.frames, .inl rfl, fun b hb => ?_,
   I.bs, Nat.le_trans I.ok.bsz I.sz, fun b o e hb => ?_, fun b hb z => ?_, I.stack, I.stkFree⟩
  ·have hm : (x, NameKind.free) ∈ scope.names := by
    rcases hx with z | z
    ·exact gE (env := X.env) z (.inl rfl) hcell
    ·exact gE (env := X.env) z (.inr rfl) hcell
   exact hcl2 _ hm rfl
  ·exact ⟨fpC b hb, fun x c e => (f2 b hb).2.2.2.2.1 x c (hcl1 x c e)⟩
  ·rcases (f2 b hb).2.2.2.1 with z | z
   ·exact I.ok.noex b o e z
   ·exact absurd (Heap.lt_size (I.ok.bs b o e).1) (Nat.not_lt.mpr z)
  ·rcases List.mem_cons.mp (I.stkSub b z) with q | q
   ·exact (f2 b hb).2.1 q
   ·exact (f2 b hb).2.2.1 q
 have hσl : (j8 js σ).length = N.length := by unfold j8; rw [List.length_map, caps.len]
 have freeC : H2 C = none := I.hok.fresh (by rw [hD]; exact hCle)
 have freeD : H2 D = none := I.hok.fresh (by rw [hD]; exact Nat.le_refl _)
 have DnotFs : D ∉ frs X.stack := fun z => Nat.lt_irrefl _ (fsIn D z)
 have DnotFp : D ∉ fp := fun z => Nat.lt_irrefl _ (fplt D z)
 have I0 : ∀ tk, Inv X' [] (j8 js σ) H2 { s2 with heap := h₁, toks := tk } := fun tk => by
  refine ⟨ok', rfl, I.bare, Un.kept old, ⟨_, hns₁, fun i x v e1 e2 e3 => ?_⟩, fun x c e => ?_, freeC, fun x c e => I.freeC x c (hcl1 x c e), fun p hp => absurd hp (by show ¬ p ∈ ([] ++ [] : List (Addr × Obj)); simp), I.hok.kept old, hσl⟩
  ·unfold j8 at e2
   rw [List.getElem?_map] at e2
   cases q : js[i]? with
   | none => rw [q] at e2; cases e2
   | some o =>
    rw [q] at e2
    cases o with
    | none => cases e2
    | some j =>
     have e2' : (σ[j]?).join = some v := Option.some.inj e2
     obtain ⟨c1, c2, c3⟩ := caps.get q e1
     have e4 : σ[j]? = some (some v) := by
      cases z : σ[j]? with
      | none => rw [z] at e2'; cases e2'
      | some u => rw [z] at e2'; have : u = some v := e2'; rw [this]
     obtain ⟨m, hm, hl⟩ := I.loc
     have vis : Vis X.env.scope x := by
      rcases c2 with z | z
      · exact .inr (.inl z)
      · exact .inr (.inr z)
     obtain ⟨u, r, l⟩ := hl j x v c1 e4 vis
     refine ⟨u, r, .inr ⟨c3, ?_⟩⟩
     have lc : ∃ c, X.env.cells.lookup x = some c /\ s2.heap.IsCell c (some u) := by
      rcases l with ⟨k, _⟩ | ⟨_, z⟩
      · rcases c2 with z | z <;> (rw [k] at z; cases z)
      · exact z
     obtain ⟨c, e5, o, ho, hd⟩ := lc
     have hm2 : (x, NameKind.free) ∈ scope.names := by
      rcases c3 with z | z
      · exact gE (env := X.env) z (.inl rfl) hcell
      · exact gE (env := X.env) z (.inr rfl) hcell
     obtain ⟨c', e6⟩ := hcl2 _ hm2 rfl
     have e7 := hcl1 _ _ e6
     rw [e5] at e7; cases e7
     exact ⟨c, e6, o, old c o ho, hd⟩
  ·obtain ⟨v, o, ho, hd⟩ := I.cell x c (hcl1 x c e)
   exact ⟨v, o, old c o ho, hd⟩
 have fpok : ∀ {H' : Hp} {pl : List (Addr × Obj)}, (∀ b ∈ fp, H' b = none) -> (∀ b ∈ fp, ∀ p ∈ pl, p.1 ≠ b) -> ∀ b ∈ fp, j5 X' pl H' b := fun {H' pl} hn hpl b hb => by
  refine ⟨hn b hb, fpC b hb, ok'.exfs b hb, .inl hb, fun x c e => (f2 b hb).2.2.2.2.1 x c (hcl1 x c e), fun p hp => hpl b hb p ?_⟩
  have hp' : p ∈ [] ++ pl := hp
  simpa using hp'
 let LI : Nat -> Shared -> Prop := fun k s' => ∃ i ys its nn σ' H', k = n + 1 - i /\ i <= n /\ W i ys H' /\ tn i s'.heap /\ (∀ b ∈ fp, H' b = none) /\ bN ys its /\ g9 (j8 js σ) σ' /\
  Inv X' [(D, { cls := .type "list", dict := none, data := .seq its.toArray nn })] σ' H' s'
 have loop : ∀ tk, codeAny (model X.prog X.w) X.A (.compLoop (.ListComp elt [⟨tg, iter, ifs, 0⟩] scope pos) 0 (.ref it) (.ref D) (compEnvC scope cl C X.env)) (RR (.ref D) C) { s2 with heap := h₁, toks := tk } := by
  intro tk
  refine xB LI ?_ (n + 1) ⟨0, [], [], 0, j8 js σ, H2, rfl, Nat.zero_le _, w0, st1, fun b hb => (f2 b hb).1, .nil, g9.refl _, ?_⟩
  ·rintro k s3 ⟨i, ys, its, nn, σ3, H3, rfl, hin, w3, st3, fr3, r3, ks, I3⟩
   obtain ⟨hyl, tr⟩ := turn i ys H3 w3
   have fpk := fpok (pl := [(D, { cls := .type "list", dict := none, data := .seq its.toArray nn })]) fr3 (fun b hb p hp z => by
    rw [List.mem_singleton.mp hp] at z
    exact DnotFp ((show D = b from z) ▸ hb))
   rcases tr with ⟨stop, q⟩ | ⟨go, hlt, RW, hR1, hR2, step⟩
   ·refine thn (T.done X' rfl rfl rfl hc i _ s3 σ3 H3 _ I3 fpk st3 stop) fun r s4 zz0 => ?_
    obtain ⟨hr, I4⟩ := zz0
    subst hr
    show RR (.ref D) C (.ok .next) s4
    obtain ⟨pe, pn, p1, p2, p3⟩ := I4.pin (D, { cls := .type "list", dict := none, data := .seq its.toArray nn }) (by show _ ∈ [] ++ _; simp)
    refine hRR D C ys H3 s4 ?_ (q D pn)
    have hok4 : HOk X.prog X.w (upd H3 D (.lst ys)) s4.heap := HOk.track I4.hok pn ⟨Nat.le_trans hyl (Nat.le_trans hin hn), its, nn, r3, pe⟩
    have ltD : ∀ b u, H2 b = some u -> b ≠ D := fun b u e z => by rw [z, freeD] at e; cases e
    have un4 : Un (frs X.stack) fp H2 (upd H3 D (.lst ys)) s2.heap s4.heap := by
     have ub := I4.base
     refine ⟨ub.keep, ub.slot, fun b o e nn' hx => ?_, ub.there, fun b xs e => ?_, fun b o u e => ?_, fun b ps e => ?_⟩
     ·rw [aG (fun z => by have := Heap.lt_size e; rw [hD, z] at this; exact Nat.lt_irrefl _ this)]
      exact ub.free b o e nn' hx
     ·rw [aG (ltD b _ e)]; exact ub.tups b xs e
     ·rw [aG (ltD b _ e)]; exact ub.frzs b o u e
     ·rw [aG (ltD b _ e)]; exact ub.tbls b ps e
    refine ⟨I.call' I4.os un4 hok4 I4.bare fun b hb => ⟨(f2 b hb).2.2.2.1, (f2 b hb).2.1, (f2 b hb).2.2.2.2.1, (f2 b hb).2.2.2.2.2⟩, ?_, ?_, pn⟩
    ·obtain ⟨m, hm, _⟩ := I4.loc
     exact ⟨m, hm⟩
    ·refine I.fpOk (by rw [hD]; exact hCle) ?_
     rw [aG (Ne.symm hDC)]
     exact I4.free
   ·refine thn (T.item X' rfl rfl rfl hc i _ s3 σ3 H3 _ I3 fpk st3 go) fun r s4 zz0 => ?_
    obtain ⟨u, hr, h4⟩ := zz0
    subst hr
    show wpAny _ _ (letOwnedTupleGo tg (.ref it) u) _ _ s4
    refine thn h4 fun _ s5 zz0 => ?_
    obtain ⟨x, H5, I5, r5, y5, st5, fr5⟩ := zz0
    obtain ⟨g, tt, te, hg, ht, he, hq⟩ := step x H5 y5 cl C s2 H2 fp
    have fpk5 := fpok (pl := [(D, { cls := .type "list", dict := none, data := .seq its.toArray nn })]) fr5 (fun b hb p hp z => by
     rw [List.mem_singleton.mp hp] at z
     exact DnotFp ((show D = b from z) ▸ hb))
    have I5' := I5.pinned fpk5 (T.obj _ _ st5)
    refine thn (hg _ s5 σ3 H5 x u _ I5' r5 (hq σ3 ks)) fun _ s6 zz0 => ?_
    obtain ⟨σ6, H6, I6, ks6, q6⟩ := zz0
    refine thn (ht _ s6 σ6 H6 _ I6 q6) fun b s7 zz0 => ?_
    obtain ⟨H7, I7, q7⟩ := zz0
    have stK : ∀ {s' : Shared} {H' : Hp} {σ' : St}, Inv X' ([(D, { cls := .type "list", dict := none, data := .seq its.toArray nn })] ++ oZ fp s5.heap) σ' H' s' -> tn (i + 1) s'.heap /\ (∀ b ∈ fp, H' b = none) := fun {s' H' σ'} I' => by
     refine ⟨T.keep _ _ _ st5 fun b hb o e => (I'.pin (b, o) (List.mem_append_right _ (List.mem_append_right _ (k6 hb e)))).1, fun b hb => ?_⟩
     obtain ⟨o, e, d⟩ := T.obj _ _ st5 b hb
     exact (I'.pin (b, o) (List.mem_append_right _ (List.mem_append_right _ (k6 hb e)))).2.1
    cases b with
    | false =>
     rw [if_neg Bool.false_ne_true] at q7 ⊢
     obtain ⟨a1, a2⟩ := stK I7
     exact ⟨n + 1 - (i + 1), by omega, i + 1, ys, its, nn, σ6, H7, rfl, hlt, hR2 _ q7, a1, a2, r3, ks6, I7.unpinned⟩
    | true =>
     rw [if_pos rfl] at q7 ⊢
     refine thn (he _ s7 σ6 H7 _ I7 q7) fun yv s8 zz0 => ?_
     obtain ⟨y, H8, I8, r8, q8⟩ := zz0
     obtain ⟨a1, a2⟩ := stK I8
     have I8u := I8.unpinned
     obtain ⟨pe, pn, p1, p2, p3⟩ := I8u.pin (D, { cls := .type "list", dict := none, data := .seq its.toArray nn }) (by show _ ∈ [] ++ _; simp)
     have hl8 : s8.heap.IsList D its.toArray := PySem.IsL.isList pe
     have isz : its.length <= sizeLine := by rw [<- r3.length]; exact Nat.le_trans hyl (Nat.le_trans hin hn)
     refine xC pe (by simpa using isz) fun nn' h9 e9 hs9 => ?_
     have I9 : Inv X' [] σ6 H8 { s8 with heap := h9, toks := s8.toks } := by
      refine Inv.turned (pins := []) (it := D) (t' := s8.toks) (I8u.pins_of (pins' := []) fun p hp => absurd hp (by simp)) (fun b o hb e => (hs9.2 b hb).trans e) pn hDC (.inr (by show s2.heap.objs.size <= D; rw [hD]; exact Nat.le_refl _)) (fun x c e z => ?_) fun p hp => absurd hp (by show ¬ p ∈ ([] ++ [] : List (Addr × Obj)); simp)
      obtain ⟨v, o, ho, hd⟩ := I.cell x c (hcl1 x c e)
      have := Heap.lt_size ho
      rw [hD, z] at this
      exact Nat.lt_irrefl _ this
     refine ⟨n + 1 - (i + 1), by omega, i + 1, ys ++ [y], its ++ [yv], nn', σ6, H8, rfl, hlt, hR1 _ _ q8, ?_, a2, bN.append r3 (.cons r8 .nil), ks6, ?_⟩
     ·exact T.keep _ _ _ a1 fun b hb o e => (hs9.2 b (fun z => DnotFp (z ▸ hb))).trans e
     ·refine I9.pins_of fun p hp => ?_
      obtain rfl := List.mem_singleton.mp hp
      exact ⟨by simpa using e9, pn, p1, p2, by simp⟩
  ·refine (I0 tk).pins_of fun p hp => ?_
   obtain rfl := List.mem_singleton.mp hp
   exact ⟨haccO, freeD, hDC, DnotFs, by simp⟩
 exact codeAny_compStart_list (loop _) (T.self X.A 0 _ _ _ st1 (loop _))
noncomputable def eR (names : List (Str × NameKind)) (outer : Str -> Option NameKind) : Bool :=
 names.all (fun y => y.2 != .cell) && names.all (fun y => y.2 != .local || names.lookup y.1 == some .local) && names.all (fun y => y.2 != .free || outer y.1 == some .cell || outer y.1 == some .free)
theorem eR.cell {names : List (Str × NameKind)} {outer : Str -> Option NameKind} (h : eR names outer = true) : ∀ y ∈ names, y.2 ≠ .cell := fun y hy => by
 unfold eR at h
 simp only [Bool.and_eq_true, List.all_eq_true] at h
 simpa using h.1.1 y hy
theorem eR.names {names : List (Str × NameKind)} {outer : Str -> Option NameKind} (h : eR names outer = true) : ∀ y ∈ names, y.2 = .local -> names.lookup y.1 = some .local := fun y hy e => by
 unfold eR at h
 simp only [Bool.and_eq_true, List.all_eq_true] at h
 have := h.1.2 y hy
 rw [e] at this
 simpa using this
theorem eR.free {names : List (Str × NameKind)} {outer : Str -> Option NameKind} (h : eR names outer = true) : ∀ y ∈ names, y.2 = .free -> outer y.1 = some .cell \/ outer y.1 = some .free := fun y hy e => by
 unfold eR at h
 simp only [Bool.and_eq_true, List.all_eq_true] at h
 have := h.2 y hy
 rw [e] at this
 simpa using this
theorem fV {N : List Str} {js : List (Option Nat)} {scope : Scope} {tg elt iter : Expr} {ifs : List Expr} {pos : Pos} {wi : TI} (hc : X.calm = true) (caps : Caps X scope N js) (hok : eR scope.names X.env.kindOf = true)
  (hi : PI X tg iter wi) (hkind : scope.kind = .function := by rfl) (hs : ∀ x, foldedSetIterable iter X.env x = pure x := by intro _; rfl) :
  PE X (.ListComp elt [⟨tg, iter, ifs, 0⟩] scope pos) (sU X N scope js tg elt ifs wi) := by
 intro pins s σ H Q I h
 obtain ⟨cl, e1, e2, e3⟩ := sT (env := X.env) (scope := scope) fun x hx hf => I.ok.has _ (eR.free hok x hx hf)
 rw [eval_ListComp]
 refine wpAny_comprehension_free (use := none) rfl hs e1 hkind (eR.names hok) (thn (hi pins s σ H _ I h) fun v s1 h1 => thn h1 fun itv s2 h2 => ?_)
 obtain ⟨it, fp, tn, J, H2, rfl, I2, T, st2, f2, n, W, hn, w0, turn⟩ := h2
 refine sV (RR := fun acc C => compPost (model X.prog X.w) X.A X.xe none (EP X pins σ Q) acc C) (Q := Q) hc caps hkind (eR.cell hok) e2 e3 I2 T st2 f2 n W hn w0 turn ?_
 intro D C ys H' s' ce q
 obtain ⟨m, hm⟩ := ce.ns
 exact ⟨m, hm, fun h' hs' => ⟨.ref D, _, CompEnd.gone (D := D) (ys := ys) (H' := H') ce.inv ce.fp hs', rfl, q⟩⟩
theorem nY {i : Nat} {x : Str} {N : List Str} {js : List (Option Nat)} {scope : Scope} {tg elt iter : Expr} {ifs : List Expr} {pos pos' spos : Pos} {wi : TI} (hN : X.N.Nodup) (hi' : X.N[i]? = some x) (hx : Loc X.env.scope x)
  (hsw : swapsWith (.ListComp elt [⟨tg, iter, ifs, 0⟩] scope pos) (some (.Name x pos')) spos.line X.env = pure true) (hc : X.calm = true) (caps : Caps X scope N js) (hok : eR scope.names X.env.kindOf = true)
  (hi : PI X tg iter wi) (hkind : scope.kind = .function := by rfl) (hf : X.fn x = true \/ X.env.scope.names.lookup x = some .local := by exact .inl rfl) (hs : ∀ x, foldedSetIterable iter X.env x = pure x := by intro _; rfl) :
  PS X (.Assign [.Name x pos'] (.ListComp elt [⟨tg, iter, ifs, 0⟩] scope pos) spos) (kS (sU X N scope js tg elt ifs wi) (jL i)) := by
 intro pins s σ H D I h
 obtain ⟨cl, e1, e2, e3⟩ := sT (env := X.env) (scope := scope) fun x hx hf => I.ok.has _ (eR.free hok x hx hf)
 rw [exec_Assign_Name_used _ _ _ _ hsw]
 refine wpAny_bind (wpAny_standAt (wpAny_bind ?_))
 show wpAny _ X.A (do let _ <- comprehension (.ListComp elt [⟨tg, iter, ifs, 0⟩] scope pos) scope X.env _ (newList []) false (eval iter X.env) (some (assign (.Name x pos') X.env))) _ _ s
 refine wpAny_bind (wpAny_mono (wpAny_comprehension_free (use := some (assign (.Name x pos') X.env)) (Q := fun _ s' => SP X pins D .next s') rfl hs e1 hkind (eR.names hok)
  (thn (hi pins s σ H _ I h) fun v s1 h1 => thn h1 fun itv s2 h2 => ?_)) (fun _ s' hq => wpAny_pure (wpAny_pure hq)) fun _ _ e => e)
 obtain ⟨it, fp, tn, J, H2, rfl, I2, T, st2, f2, n, W, hn, w0, turn⟩ := h2
 refine sV (RR := fun acc C => compPost (model X.prog X.w) X.A X.xe (some (assign (.Name x pos') X.env)) (fun _ s' => SP X pins D .next s') acc C) (Q := fun v H' => D.nx (σ.set i (some v)) H') hc caps hkind (eR.cell hok) e2 e3 I2 T st2 f2 n W hn w0 turn ?_
 intro L C ys H' s' ce q
 show wpAny _ X.A (assign (.Name x pos') X.env (.ref L)) _ _ s'
 refine wpAny_assign_Name (vP (v := .ref L) ce.inv hN hi' hx rfl (fun s'' I'' sb => ?_) hf)
 obtain ⟨a, hsa, ha⟩ := sb
 have hCa : C ≠ a := by
  rcases ha with z | z
  · rw [z]; exact ce.fp.2.1
  · exact fun z' => ce.fp.2.2.2.2.1 x a z z'.symm
 obtain ⟨m, hm⟩ := ce.ns
 exact ⟨m, hm.sameBut hsa hCa, fun h' hs' => ⟨_, _, CompEnd.gone (D := L) (ys := ys) (H' := H') I'' ce.fp hs', q⟩⟩
end
noncomputable def aGF (W : Nat -> List V -> Hp -> Prop) (i : Nat) (ys : List V) : Option V -> Hp -> Prop
 | some y, H => W (i + 1) (ys ++ [y]) H
 | none, H => W (i + 1) ys H
theorem aHJ {X : Cx} {J : It} {N : List Str} {scope : Scope} {js : List (Option Nat)} {tg elt : Expr} {ifs : List Expr} {σ : St} {Q : VK} {n : Nat} {H1 : Hp} (W : Nat -> List V -> Hp -> Prop) (hz : n <= sizeLine) (w0 : W 0 [] H1)
  (hl : ∀ i ys H, i <= n -> W i ys H -> ys.length <= i) (hgo : ∀ i ys H, i < n -> W i ys H -> J.go i H) (hst : ∀ ys H, W n ys H -> J.stop n H)
  (step : ∀ i x ys H H', i < n -> W i ys H -> J.yld i H x H' -> uL X N scope js tg elt ifs σ x H' (aGF W i ys))
  (done : ∀ ys H, W n ys H -> ∀ p, H p = none -> Q (.ref p) (upd H p (.lst ys))) :
  compK X N scope js tg elt ifs σ Q J H1 := by
 refine ⟨n, fun i ys H => i <= n /\ W i ys H, hz, ⟨Nat.zero_le _, w0⟩, ?_⟩
 rintro i ys H ⟨hi, w⟩
 refine ⟨hl i ys H hi w, ?_⟩
 by_cases hlt : i < n
 ·exact .inr ⟨hgo i ys H hlt w, hlt, aGF W i ys, fun y H2 q => ⟨hlt, q⟩, fun H2 q => ⟨hlt, q⟩, fun x H' y => step i x ys H H' hlt w y⟩
 ·have e : i = n := by omega
  subst e
  exact .inl ⟨hst ys H w, done ys H w⟩
end L2
namespace L2
open PySem PySem.Spec PyProof.Rows
mutual
inductive DatV (K : Frag) (H : Hp) : V -> PyData -> Prop
 | non : DatV K H .non .none
 | bl (b : Bool) : DatV K H (.bl b) (.bool b)
 | int (i : Int) : DatV K H (.int i) (.int i)
 | str (x : Str) : DatV K H (.str x) (.str x)
 | lst {a : Addr} {xs : List V} {ds : List PyData} : SqL K H a xs -> DatVs K H xs ds -> DatV K H (.ref a) (.list ds)
 | tup {a : Addr} {xs : List V} {ds : List PyData} : SqT K H a xs -> DatVs K H xs ds -> DatV K H (.ref a) (.tuple ds)
inductive DatVs (K : Frag) (H : Hp) : List V -> List PyData -> Prop
 | nil : DatVs K H [] []
 | cons {x : V} {d : PyData} {xs : List V} {ds : List PyData} : DatV K H x d -> DatVs K H xs ds -> DatVs K H (x :: xs) (d :: ds)
end
section
variable {X : Cx} {pins : List (Addr × Obj)} {σ : St} {H : Hp} {s : Shared}
theorem DatV.reads (I : Inv X pins σ H s) {x : V} {d : PyData} {u : Value} (h : DatV X.K H x d) (r : bC x u) : ∃ as, Reads s.heap u d as := by
 refine DatV.rec (motive_1 := fun x d _ => ∀ u, bC x u -> ∃ as, Reads s.heap u d as) (motive_2 := fun xs ds _ => ∀ us, bN xs us -> ∃ as, ReadsAll s.heap us ds as) ?_ ?_ ?_ ?_ ?_ ?_ ?_ ?_ h u r
 ·intro u r; cases r; exact ⟨_, .none⟩
 ·intro b u r; cases r; exact ⟨_, .bool b⟩
 ·intro i u r; obtain ⟨t, rfl⟩ := r; exact ⟨_, .int i t⟩
 ·intro x u r; obtain ⟨t, rfl⟩ := r; exact ⟨_, .str x t⟩
 ·intro a xs ds h _ ih u r
  cases r
  obtain ⟨its, rv, p, hz⟩ := I.list h
  obtain ⟨o, e, c, n, d⟩ := p.isList
  obtain ⟨as, q⟩ := ih _ rv
  exact ⟨_, .list e c d (by simpa using q)⟩
 ·intro a xs ds h _ ih u r
  cases r
  obtain ⟨its, rv, p, hz⟩ := I.tuple h
  obtain ⟨o, e, c, n, d⟩ := p
  obtain ⟨as, q⟩ := ih _ rv
  exact ⟨_, .tuple e c d (by simpa using q)⟩
 ·intro us r; cases r; exact ⟨_, .nil⟩
 ·intro x d xs ds _ _ i1 i2 us r
  cases r with
  | cons r1 r2 =>
   obtain ⟨as, q⟩ := i1 _ r1
   obtain ⟨bs, q2⟩ := i2 _ r2
   exact ⟨_, .cons q q2⟩
theorem aKG (hu : X.A.units + 64 < cLine) : OpR X (compareOp .Eq) (fun x y H Q => ∃ d e, DatV X.K H x d /\ DatV X.K H y e /\ SeqAt.shaped d = true /\ SeqAt.shaped e = true /\ Q (.bl (PyData.eqv d e)) H) := by
 intro pins s σ H x y u v Q I rx ry h
 obtain ⟨d, e, hx, hy, sd, se, q⟩ := h
 obtain ⟨as, r1⟩ := hx.reads I rx
 obtain ⟨bs, r2⟩ := hy.reads I ry
 exact eq_dataH r1 r2 sd se hu ⟨.bl _, H, I, rfl, q⟩
theorem aKH (hu : X.A.units + 64 < cLine) : OpR X (compareOp .NotEq) (fun x y H Q => ∃ d e, DatV X.K H x d /\ DatV X.K H y e /\ SeqAt.shaped d = true /\ SeqAt.shaped e = true /\ Q (.bl (!PyData.eqv d e)) H) := by
 intro pins s σ H x y u v Q I rx ry h
 obtain ⟨d, e, hx, hy, sd, se, q⟩ := h
 obtain ⟨as, r1⟩ := hx.reads I rx
 obtain ⟨bs, r2⟩ := hy.reads I ry
 exact ne_dataH r1 r2 sd se hu ⟨.bl _, H, I, rfl, q⟩
end
theorem SqL.same {K : Frag} {H H' : Hp} {a : Addr} {xs : List V} (e : aR H H') (h : SqL K H a xs) : SqL K H' a xs := aR.seq e h
theorem SqT.same {K : Frag} {H H' : Hp} {a : Addr} {xs : List V} (e : aR H H') (h : SqT K H a xs) : SqT K H' a xs := by
 rcases h with (h | ⟨o, h⟩) | h
 · exact .inl (.inl (e _ _ h))
 · exact .inl (.inr ⟨o, e _ _ h⟩)
 · exact .inr h
theorem DatV.same {K : Frag} {H H' : Hp} (e : aR H H') {x : V} {d : PyData} (h : DatV K H x d) : DatV K H' x d :=
 DatV.rec (motive_1 := fun x d _ => DatV K H' x d) (motive_2 := fun xs ds _ => DatVs K H' xs ds) .non .bl .int .str (fun h _ q => .lst (h.same e) q) (fun h _ q => .tup (h.same e) q) .nil (fun _ _ p q => .cons p q) h
theorem DatVs.same {K : Frag} {H H' : Hp} (e : aR H H') {xs : List V} {ds : List PyData} (h : DatVs K H xs ds) : DatVs K H' xs ds :=
 DatVs.rec (motive_1 := fun x d _ => DatV K H' x d) (motive_2 := fun xs ds _ => DatVs K H' xs ds) .non .bl .int .str (fun h _ q => .lst (h.same e) q) (fun h _ q => .tup (h.same e) q) .nil (fun _ _ p q => .cons p q) h
theorem aR.upd {H : Hp} {a : Addr} {o : HO} (h : H a = none) : aR H (upd H a o) := fun b u e => by rw [aG (bG e h)]; exact e
theorem DatVs.length {K : Frag} {H : Hp} : ∀ {xs : List V} {ds : List PyData}, DatVs K H xs ds -> xs.length = ds.length
 | _, _, .nil => rfl
 | _, _, .cons _ t => by simp [DatVs.length t]
theorem DatVs.append {K : Frag} {H : Hp} : ∀ {xs ys : List V} {ds es : List PyData}, DatVs K H xs ds -> DatVs K H ys es -> DatVs K H (xs ++ ys) (ds ++ es)
 | _, _, _, _, .nil, h => h
 | _, _, _, _, .cons a t, h => .cons a (DatVs.append t h)
theorem DatVs.get {K : Frag} {H : Hp} : ∀ {xs : List V} {ds : List PyData} {i : Nat} {x : V}, DatVs K H xs ds -> xs[i]? = some x -> ∃ d, ds[i]? = some d /\ DatV K H x d
 | _, _, _, _, .nil, e => by simp at e
 | _, _, 0, _, .cons a t, e => by simp at e; subst e; exact ⟨_, by simp, a⟩
 | _, _, i + 1, x, .cons a t, e => by
  obtain ⟨d, h1, h2⟩ := DatVs.get (i := i) (x := x) t (by simpa using e)
  exact ⟨d, by simpa using h1, h2⟩
theorem DatVs.get' {K : Frag} {H : Hp} : ∀ {xs : List V} {ds : List PyData} {i : Nat} {d : PyData}, DatVs K H xs ds -> ds[i]? = some d -> ∃ x, xs[i]? = some x /\ DatV K H x d
 | _, _, _, _, .nil, e => by simp at e
 | _, _, 0, _, .cons a t, e => by simp at e; subst e; exact ⟨_, by simp, a⟩
 | _, _, i + 1, x, .cons a t, e => by
  obtain ⟨d, h1, h2⟩ := DatVs.get' (i := i) (d := x) t (by simpa using e)
  exact ⟨d, by simpa using h1, h2⟩
theorem DatVs.drop {K : Frag} {H : Hp} : ∀ {xs : List V} {ds : List PyData} (n : Nat), DatVs K H xs ds -> DatVs K H (xs.drop n) (ds.drop n)
 | _, _, 0, h => h
 | _, _, _ + 1, .nil => .nil
 | _, _, n + 1, .cons _ t => DatVs.drop n t
theorem DatVs.take {K : Frag} {H : Hp} : ∀ {xs : List V} {ds : List PyData} (n : Nat), DatVs K H xs ds -> DatVs K H (xs.take n) (ds.take n)
 | _, _, 0, _ => .nil
 | _, _, _ + 1, .nil => .nil
 | _, _, n + 1, .cons a t => .cons a (DatVs.take n t)
end L2
namespace SX
open PySem PySem.W
section
variable {prog : Program} {w : World} {A : Around} {E : Value -> Shared -> Prop} {h : Heap} {g : Array GenState} {d : Drawn} {t : Nat} {os : OsState} {K : Frag}
variable {nm q : Str} {C N : Addr} {bs bm bmB : List Value} {hdct : Bool} {sn : List Str} {sub : List Value} {ab : Bool} {col : Option Bool} {dd : Option Addr} {k0 k1 k2 k3 k5 : Option Value} {B newId initId : String}
structure BmOk (B : String) (bm : List Value) : Prop where
 hasB : bm.contains (.type B) = true
 hasBase : bm.contains (.type "BaseException") = true
 noAttr : bm.contains (.type "AttributeError") = false
 noName : bm.contains (.type "NameError") = false
theorem aBL (F : ExcBaseFacts B newId initId bmB) (T : BmOk B bm) {M : Model} {rest : List Value} {Q : Unit -> Shared -> Prop} (hC : h.get? C = some (excClassObj nm q C N bs bm hdct sn sub ab col dd k0 k1 k2 k3 k5 newId))
  (hq : Q () ⟨h, g, d, t, os⟩) : wpAny M A (checkBuiltinCall newId ⟨.ref C :: rest, []⟩) Q E ⟨h, g, d, t, os⟩ := by
 have hcont : (Value.ref C :: bm).contains (.type B) = true := by rw [List.contains_cons, T.hasB, Bool.or_true]
 have hstar := F.noStar
 simp only [checkBuiltinCall, F.newKind, F.newSplit, F.newRow]
 repeat (first | refine wpAny_loadPart_at hC ?_ | (refine wpAny_isSubtype_exc hC ?_; rw [hcont]) | refine wpAny_staticBase_exc hC ?_ | refine wpAny_madeBy_exc hC ?_ | simp only [bne_self_eq_false, Bool.false_eq_true, if_false] | wp_step)
 exact hq
theorem aE0 (F : ExcBaseFacts B newId initId bmB) (T : BmOk B bm) {R : Result -> Shared -> Prop} {rest : List Value} (hC : h.get? C = some (excClassObj nm q C N bs bm hdct sn sub ab col dd k0 k1 k2 k3 k5 newId))
  (hq : R (.ok (.ret (.ref (h.objs.size + 1)))) ⟨(h.push { cls := .type "tuple", data := .seq rest.toArray }).push
   { cls := .ref C, data := .fields #[.ref h.objs.size, .none, .none, .none, .bool false, .none] }, g, d, t, os⟩) (hrest : rest.length <= sizeLine) :
  codeAny (model prog w) A (.builtin newId ⟨.ref C :: rest, []⟩) R ⟨h, g, d, t, os⟩ := by
 have hends := F.ends
 have hcB : (Value.ref C :: bm).contains (.type B) = true := by rw [List.contains_cons, T.hasB, Bool.or_true]
 have hcA : (Value.ref C :: bm).contains (.type "AttributeError") = false := by rw [List.contains_cons, T.noAttr]; rfl
 have hcN : (Value.ref C :: bm).contains (.type "NameError") = false := by rw [List.contains_cons, T.noName]; rfl
 refine codeAny_builtinAt F.entry ?_
 unfold Builtin.«BaseException.__new__»
 refine wpAt_bind ?_
 show wpAt _ _ _ (stack >>= _) _ _ _
 refine wpAt_bind (wpAt_stack fun p below => wpAt_of_wpAny ?_)
 wp_walk
 refine wpAt_of_wpAny ?_
 rw [F.owner]
 repeat (first | with_reducible refine wpAny_madeHere_exc F.canon hC ?_ | with_reducible refine wpAny_loadPart_at hC ?_ | (with_reducible refine wpAny_isSubtype_exc hC ?_; first | rw [hcB] | rw [hcA] | rw [hcN]) | wp_step)
 show R _ _
 rw [Heap.size_push]
 exact hq
theorem xD (F : ExcBaseFacts B newId initId bmB) (T : BmOk B bm) (X : K.In h) {rest : List Value} {fI : Addr} {Q : Fin -> Shared -> Prop}
  (hC : h.get? C = some (excClassObj nm q C N bs bm hdct sn sub ab col dd k0 k1 k2 k3 k5 newId)) (hi : findIn K (.ref C) "__init__" = some (some (.ref fI))) (hf : typeIn K (.ref fI) = some (.type "function"))
  (hq : ∀ h' e, Heap.MadeExcOf h h' e (.ref C) rest -> h.objs.size <= e ->
   wpAny (model prog w) A (call (.ref fI) (.ref e :: rest)) (fun r s' => r = .none /\ Q (.done (.ret (.ref e))) s') E ⟨h', g, d, t, os⟩) (hrest : rest.length <= sizeLine) :
  wpAny (model prog w) A (Builtin.«type.__call__» ⟨.ref C :: rest, []⟩) Q E ⟨h, g, d, t, os⟩ := by
 repeat (first | with_reducible refine wpAny_loadPart_at hC ?_ | with_reducible refine wpAny_madeBy_exc hC ?_ | wp_step)
 refine codeAny_call_builtin_code (Code.quiet_builtin _ F.quiet) (aBL F T hC ?_)
 refine aE0 F T hC ?_ hrest
 show wpAny _ _ _ _ _ _
 have kp : ∀ b o, h.get? b = some o -> ((h.push { cls := .type "tuple", data := .seq rest.toArray }).push { cls := .ref C, data := .fields #[.ref h.objs.size, .none, .none, .none, .bool false, .none] }).get? b = some o := fun b o e => Heap.get?_push_of_some _ (Heap.get?_push_of_some _ e)
 have hC₁ := kp _ _ hC
 have X₁ := X.keeps kp
 have hget : ((h.push { cls := .type "tuple", data := .seq rest.toArray }).push
   { cls := .ref C, data := .fields #[.ref h.objs.size, .none, .none, .none, .bool false, .none] }).get? (h.objs.size + 1) = some
   { cls := .ref C, data := .fields #[.ref h.objs.size, .none, .none, .none, .bool false, .none] } := by heap_get
 have hcC : (Value.ref C :: bm).contains (.ref C) = true := by simp
 unfold isInstance
 repeat (first | with_reducible refine wpAny_loadPart_at hget ?_ | (with_reducible refine wpAny_isSubtype_exc hC₁ ?_; rw [hcC]) | wp_step)
 show wpAny _ _ (typeLookup (.ref C) _) _ _ _
 refine (looks_findIn (M := model prog w) X₁ hi).at ?_
 refine wpAny_holding (wpAny_bind ?_)
 refine (bind_fn (M := model prog w) X₁ _ hf).at ?_
 refine wpAny_bind (wpAny_mono (hq _ (h.objs.size + 1) ⟨kp, Heap.get?_none_of_le (Nat.le_succ _), h.objs.size, hget, Heap.get?_none_of_le (Nat.le_refl _), ?_⟩ (Nat.le_succ _)) (fun r s' hr => ?_) fun _ _ x => x)
 ·exact Heap.get?_push_of_some _ (Heap.get?_push_at rfl rfl)
 ·obtain ⟨rfl, hQ⟩ := hr
  wp_walk
  exact hQ
theorem aE1 (F : ExcBaseFacts B newId initId bmB) (T : BmOk B bm) (X : K.In h) {rest : List Value} {fI : Addr} {Q : Value -> Shared -> Prop}
  (hC : h.get? C = some (excClassObj nm q C N bs bm hdct sn sub ab col dd k0 k1 k2 k3 k5 newId)) (hi : findIn K (.ref C) "__init__" = some (some (.ref fI))) (hf : typeIn K (.ref fI) = some (.type "function"))
  (hq : ∀ h' e, Heap.MadeExcOf h h' e (.ref C) rest -> h.objs.size <= e ->
   wpAny (model prog w) (A.under (.builtin "type.__call__" ⟨.ref C :: rest, []⟩)) (call (.ref fI) (.ref e :: rest)) (fun r s' => r = .none /\ Q (.ref e) s') E ⟨h', g, d, t, os⟩) (hrest : rest.length <= sizeLine) :
  wpAny (model prog w) A (call (.ref C) rest) Q E ⟨h, g, d, t, os⟩ := by
 have f1 := tc_lookup
 have f2 := tc_bind (.ref C)
 have hT : (⟨h, g, d, t, os⟩ : Shared).TypeIs (.ref C) "type" := ⟨_, hC, rfl⟩
 refine wpAny_call (codeAny_of_tree ?_)
 show wpAny _ _ (callAny (.ref C) _) _ _ _
 repeat (any_goals (first | assumption | with_reducible refine wpAny_loadPart_at hC ?_ | wp_step))
 refine ⟨rfl, ?_⟩
 refine codeAny_call_builtin_at (Code.quiet_builtin _ (by decide +kernel)) entry_typeCall (wpAny_check_type_call_sub hC (xD F T X hC hi hf (fun h' e hm hle => ?_) hrest))
 exact hq h' e hm hle
theorem k7 {M : Model} {env : Env} {s : Shared} {x : Sem Value} {Q : Flow -> Shared -> Prop} (T : BmOk B bm) (hh : A.handled = none)
  (hx : wpAny M A x (fun v s₁ => ∃ e od vs, v = .ref e /\ s₁.heap.get? C = some (excClassObj nm q C N bs bm hdct sn sub ab col dd k0 k1 k2 k3 k5 newId) /\
   s₁.heap.get? e = some { cls := .ref C, dict := od, data := .fields vs } /\ vs[1]? = some .none /\ E (.ref e) s₁) E s) :
  wpAny M A (raiseStmt env (some x) none) Q E s := by
 have hcB : (Value.ref C :: bm).contains (.type "BaseException") = true := by rw [List.contains_cons, T.hasBase, Bool.or_true]
 unfold raiseStmt
 refine wpAny_bind (wpAny_mono hx (fun v s₁ h₁ => ?_) fun _ _ x => x)
 obtain ⟨e, od, vs, rfl, hC, he, h1, hE⟩ := h₁
 obtain ⟨hp, g, d, tk, os⟩ := s₁
 repeat (first | with_reducible refine wpAny_loadPart_at he ?_ | with_reducible refine wpAny_loadPart_at hC ?_ | (with_reducible refine wpAny_isSubtype_exc hC ?_; rw [hcB]) | (with_reducible refine wpAny_field he rfl h1 ?_) | wp_step)
 exact wpAny_raiseNew_none hh hE
end
end SX
namespace SX
open PySem PySem.W PySem.Builtin PySem.Builtin.ObjectAttr
abbrev gG : List Value := [.type "ValueError", .type "Exception", .type "BaseException", .type "object"]
structure ExcC (K : Frag) (W C : Addr) : Prop where
 lk : ∃ nm q N bs sn sub ab col dd k0 k1 k2 k3 k5, K.lookup C = some (excClassObj nm q C N bs (.ref W :: gG) true sn sub ab col dd k0 k1 k2 k3 k5 "ValueError.__new__")
 sa : findIn K (.ref C) "__setattr__" = some (some (.builtin "object.__setattr__"))
 ga : findIn K (.ref C) "__getattribute__" = some (some (.builtin "BaseException.__getattribute__"))
 gh : findIn K (.ref C) "__getattr__" = some none
 cl : findIn K (.ref C) "__class__" = some (some (.builtin "object.__class__"))
 clg : specialIn K (.builtin "object.__class__") "__get__" = some (some (.builtin "getset_descriptor.__get__"))
 clt : takesIn K (.builtin "object.__class__") = some true
 kp : keepIn K (.ref C) = true
theorem uM (W : Addr) : BmOk "ValueError" (.ref W :: gG) := ⟨by simp [gG], by simp [gG], by simp [gG], by simp [gG]⟩
theorem passes (self : Value) (C W : Addr) : refuseLoop self "__setattr__" (.ref C :: .ref W :: gG) = pure () := by
 rw [refuseLoop_ref, refuseLoop_ref]
 exact PySem.F.store_ValueError.passes self
theorem ExcC.cls {K : Frag} {W C : Addr} (c : ExcC K W C) : ∃ cd : ClassData, clsIn K C = some cd /\ cd.hasDict = true /\ cd.mro = .ref C :: .ref W :: gG := by
 obtain ⟨nm, q, N, bs, sn, sub, ab, col, dd, k0, k1, k2, k3, k5, e⟩ := c.lk
 exact ⟨_, by unfold clsIn; rw [e], rfl, rfl⟩
theorem ExcC.mro {K : Frag} {W C : Addr} (c : ExcC K W C) (b : Value) : mroIn K C b = some ((Value.ref C :: .ref W :: gG).contains b) := by
 obtain ⟨cd, h1, _, h3⟩ := c.cls
 unfold mroIn
 rw [h1, Option.bind_some, h3]
 rfl
section
variable {prog : Program} {w : World} {A : Around} {E : Value -> Shared -> Prop} {s : Shared} {K : Frag} {W C x : Addr} {name : Str} {v : Value} {vs : Array Value}
theorem z6 {od : Option Addr} {o : Option Obj} {tk : Tok} {R : Result -> Shared -> Prop} (X : K.In s.heap) (c : ExcC K W C) (na : findIn K (.ref C) name = some none) (I : InstAt s.heap x ⟨.ref C, od, .fields vs, #[]⟩ C o)
  (h : wpAny (model prog w) A.in1 (storeInOwnDict (.ref x) (.ref C) (.str name tk) name v false)
   (fun fin s' => match fin with | .done f => R (.ok f) s' | .again c' => c'.quiet = true /\ codeAny (model prog w) A c' R s') (fun e s' => R (.error e) s') s) :
  codeAny (model prog w) A (.call (.builtin "object.__setattr__") ⟨[.ref x, .str name tk, v], []⟩) R s := by
 have SF := PySem.F.store_object
 obtain ⟨cd, hc, hdct, hmro⟩ := c.cls
 have sub : Looks (model prog w) s.heap (isInstance (.ref x) (.type "object")) true := I.type.andThen (looks_mroIn X (by rw [c.mro]; simp [gG]))
 refine codeAny_call_builtin SF.slot.plain SF.entry (@check_slot (model prog w) _ _ s "object.__setattr__" "object" "__setattr__" (.ref x) [.str name tk, v] [] _ SF.kind SF.split sub (SF.args (.ref x) (.str name tk) v) ?_)
 have hm : Looks (model prog w) s.heap (mroOf (.ref C)) cd.mro := (looks_clsIn X hc).andThen .now
 rw [osa_eq, refuse_eq]
 refine wpAny_bind (wpAny_bind (I.type.here (wpAny_bind (hm.here ?_))))
 rw [hmro, passes]
 exact wpAny_pure (wpAny_bind (I.type.here (wpAny_bind ((looks_findIn X na).here (wpAny_bind (wpAny_pure h))))))
theorem aC3 {Q : Unit -> Shared -> Prop} (X : K.In s.heap) (c : ExcC K W C) (na : findIn K (.ref C) name = some none) (hx : s.heap.get? x = some ⟨.ref C, none, .fields vs, #[]⟩)
  (h : ∀ h' tk', h'.get? x = some ⟨.ref C, some s.heap.objs.size, .fields vs, #[]⟩ -> h'.Ns1 s.heap.objs.size (fun y => if y = name then some v else none) -> (∀ b o, b ≠ x -> s.heap.get? b = some o -> h'.get? b = some o) -> Q () { s with heap := h', toks := tk' }) :
  wpAny (model prog w) A (setAttr (.ref x) name v) Q E s := by
 have I : InstAt s.heap x ⟨.ref C, none, .fields vs, #[]⟩ C none := ⟨hx, rfl, rfl, trivial⟩
 refine set_plain X I c.sa (z6 (s := { s with toks := s.toks + 1 }) X c na I ?_)
 obtain ⟨cd, hc, hdct, hmro⟩ := c.cls
 obtain ⟨hp, g, d, t, os⟩ := s
 have hx : hp.get? x = some ⟨.ref C, none, .fields vs, #[]⟩ := hx
 unfold storeInOwnDict
 refine wpAny_bind (wpAny_pure ?_)
 show wpAny _ _ (ownDictForStores (.ref x) >>= _) _ _ _
 refine wpAny_bind ?_
 show wpAny _ _ (instanceDict x true) _ _ _
 unfold instanceDict
 refine wpAny_bind (wpAny_loadPart hx (wpAny_bind ((looks_clsIn (M := model prog w) X hc).at ?_)))
 rw [hdct]
 have hx₁ : (hp.push { cls := .type "dict", data := .dict #[] }).get? x = some ⟨.ref C, none, .fields vs, #[]⟩ := Heap.get?_push_of_some _ hx
 have hxs : x ≠ hp.objs.size := Nat.ne_of_lt (Heap.lt_size hx)
 refine wpAny_bind (wpAny_alloc' ?_)
 refine wpAny_bind (wpAny_update' hx₁ ?_)
 refine wpAny_pure ?_
 have hgd : ((hp.push { cls := .type "dict", data := .dict #[] }).update x fun o => { cls := o.cls, dict := some hp.objs.size, data := o.data, slots := o.slots }).get? hp.objs.size
   = some { cls := .type "dict", data := .dict #[] } :=
  (Heap.get?_update_ne _ _ _ _ hxs.symm).trans (Heap.get?_push_at rfl rfl)
 have hnd : ((hp.push { cls := .type "dict", data := .dict #[] }).update x fun o => { cls := o.cls, dict := some hp.objs.size, data := o.data, slots := o.slots }).Ns hp.objs.size (fun _ => none) :=
  ⟨_, #[], _, hgd, rfl, fun e he => absurd he (by simp), fun _ => rfl⟩
 show wpAny _ _ (storeInDict hp.objs.size (.str name t) name v) _ _ _
 unfold storeInDict newKeyGuard
 refine wpAny_bind (wpAny_pure (wpAny_bind (wpAny_nsSet1 (Heap.Ns1.of_empty hnd) fun h' hn' hs => ?_)))
 obtain ⟨oD, esD, epD, hoD, hdD, hcD⟩ := hn'.count (Within.cons name v Within.nil)
 refine wpAny_bind (wpAny_lookBehind hoD (by rw [hdD]; exact pastItsLine_dict (Nat.le_trans hcD (by rw [List.length_cons, List.length_nil, sizeLine_eq]; omega))) ?_)
 refine wpAny_pure (h h' _ ?_ hn' fun b o hbx hb => ?_)
 ·exact (hs.2 x hxs).trans (Heap.get?_update_self _ hx₁ rfl)
 ·exact (hs.2 b (Nat.ne_of_lt (Heap.lt_size hb))).trans ((Heap.get?_update_ne _ _ _ _ hbx).trans (Heap.get?_push_of_some _ hb))
theorem aE2 {Q : Unit -> Shared -> Prop} {dx : Addr} {mA : Str -> Option Value} {ns : List Str} (X : K.In s.heap) (c : ExcC K W C) (na : findIn K (.ref C) name = some none) (hx : s.heap.get? x = some ⟨.ref C, some dx, .fields vs, #[]⟩)
  (hne : dx ≠ x) (hns : s.heap.Ns1 dx mA) (hw : Within mA ns) (hsz : ns.length <= sizeLine)
  (h : ∀ h' tk', h'.Ns1 dx (fun y => if y = name then some v else mA y) -> Heap.SameBut dx s.heap h' -> Q () { s with heap := h', toks := tk' }) :
  wpAny (model prog w) A (setAttr (.ref x) name v) Q E s := by
 obtain ⟨od, hod, _⟩ := L2.mC hns
 have I : InstAt s.heap x ⟨.ref C, some dx, .fields vs, #[]⟩ C (some od) := ⟨hx, rfl, rfl, hod⟩
 refine set_plain X I c.sa (z6 (s := { s with toks := s.toks + 1 }) X c na I ?_)
 obtain ⟨cd, hc, hdct, hmro⟩ := c.cls
 obtain ⟨hp, g, d, t, os⟩ := s
 have hx : hp.get? x = some ⟨.ref C, some dx, .fields vs, #[]⟩ := hx
 unfold storeInOwnDict
 refine wpAny_bind (wpAny_pure ?_)
 show wpAny _ _ (ownDictForStores (.ref x) >>= _) _ _ _
 refine wpAny_bind ?_
 show wpAny _ _ (instanceDict x true) _ _ _
 unfold instanceDict
 refine wpAny_bind (wpAny_loadPart hx (wpAny_bind ((looks_clsIn (M := model prog w) X hc).at ?_)))
 rw [hdct]
 refine wpAny_pure ?_
 show wpAny _ _ (storeInDict dx (.str name t) name v) _ _ _
 unfold storeInDict newKeyGuard
 refine wpAny_bind (wpAny_pure (wpAny_bind (wpAny_nsSet1 hns fun h' hn' hs => ?_)))
 obtain ⟨oD, esD, epD, hoD, hdD, hcD⟩ := hn'.count (Within.cons name v hw)
 refine wpAny_bind (wpAny_lookBehind hoD (by rw [hdD]; exact pastItsLine_dict (Nat.le_trans hcD (by rw [List.length_cons]; omega))) ?_)
 exact wpAny_pure (h h' _ hn' hs)
theorem aC4 {od : Option Addr} {o : Option Obj} {tk : Tok} {r : Value} {Q : Fin -> Shared -> Prop} (X : K.In s.heap) (I : InstAt s.heap x ⟨.ref C, od, .fields vs, #[]⟩ C o) (hf : findObj K C o name = some (.value r)) (hq : Q (.done (.ret r)) s) :
  wpAny (model prog w) A (Builtin.«object.__getattribute__» ⟨[.ref x, .str name tk], []⟩) Q E s := by
 obtain ⟨hh', g, d, t, os⟩ := s
 have L0 := I.type (M := model prog w)
 have L1 := looks_find (M := model prog w) X I hf
 refine wpAny_bind (wpAny_pure (wpAny_bind (wpAny_pure ?_)))
 exact wpAny_bind (L0.at (wpAny_bind (L1.at (wpAny_pure hq))))
theorem aKI {od : Option Addr} {o : Option Obj} {tk : Tok} {r : Value} {fill expr : Bool} {Q : Value -> Shared -> Prop} (X : K.In s.heap) (c : ExcC K W C) (I : InstAt s.heap x ⟨.ref C, od, .fields vs, #[]⟩ C o) (hf : findObj K C o name = some (.value r)) (hh : handedIn r = true) (hq : Q r s) :
  wpAny (model prog w) A (getAttrBy (.ref x) (.str name tk) fill expr) Q E s := by
 obtain ⟨hp, g, d, t, os⟩ := s
 have L0 := I.type (M := model prog w)
 have L1 := looks_findIn (M := model prog w) X c.ga
 have L2 := looks_findIn (M := model prog w) X c.gh
 have sub : Looks (model prog w) hp (isInstance (.ref x) (.type "BaseException")) true := L0.andThen (looks_mroIn X (by rw [c.mro]; simp [gG]))
 unfold getAttrBy
 refine wpAny_holding (wpAny_bind (L0.at (wpAny_bind (L1.at ?_))))
 show wpAny _ _ (getAttrByItsOwn _ _ _ _ _ _) _ _ _
 unfold getAttrByItsOwn
 refine wpAny_bind ?_
 show wpAny _ _ (typeLookup (.ref C) "__getattr__") _ _ _
 refine L2.at (wpAny_bind (wpAny_attempt (wpAny_holding ?_)))
 have hx0 : (expr && onTheHeap (Value.builtin "BaseException.__getattribute__")) = false := by cases expr <;> rfl
 unfold callGetattribute
 rw [hx0, if_neg Bool.false_ne_true]
 unfold boundAndCalled
 rw [PySem.F.excAttr_ValueError.ga.bind]
 refine wpAny_bind (wpAny_pure ?_)
 have hk : builtinKind "BaseException.__getattribute__" = some .slot := by decide +kernel
 have hsplit : splitId "BaseException.__getattribute__" = some ("BaseException", "__getattribute__") := by decide +kernel
 refine wpAny_call (codeAny_call_builtin PySem.F.excAttr_ValueError.ga.plain PySem.F.entry_bexc_ga (@check_slot (model prog w) _ _ _ "BaseException.__getattribute__" "BaseException" "__getattribute__" (.ref x) [.str name tk] [] _ hk hsplit sub (PySem.F.args_bexc_ga (.ref x) (.str name tk)) ?_))
 refine aC4 X I hf ?_
 show wpAny _ _ (handedOut r) _ _ _
 rw [handedOut_of hh]
 exact wpAny_pure hq
theorem aHK {od : Option Addr} {o : Option Obj} {r : Value} {expr : Bool} {Q : Value -> Shared -> Prop} (X : K.In s.heap) (c : ExcC K W C) (I : InstAt s.heap x ⟨.ref C, od, .fields vs, #[]⟩ C o) (hf : findObj K C o name = some (.value r)) (hh : handedIn r = true) (hq : Q r { s with toks := s.toks + 1 }) :
  wpAny (model prog w) A (getAttr (.ref x) name expr) Q E s := by
 unfold getAttr
 exact wpAny_bind (wpAny_mkText (aKI (s := { s with toks := s.toks + 1 }) X c I hf hh hq))
theorem aC5 {od : Option Addr} {o : Option Obj} {Q : Option Value -> Shared -> Prop} (X : K.In s.heap) (c : ExcC K W C) (I : InstAt s.heap x ⟨.ref C, od, .fields vs, #[]⟩ C o) (h : Q (some (.ref C)) { s with toks := s.toks + 1 }) :
  wpAny (model prog w) A (getAttr? (.ref x) "__class__") Q E s := by
 obtain ⟨hp, g, d, t, os⟩ := s
 obtain ⟨cd, hcd, hdct, hmro⟩ := c.cls
 have L0 := I.type (M := model prog w)
 have L1 := looks_findIn (M := model prog w) X c.ga
 have L2 := looks_findIn (M := model prog w) X c.gh
 have sub : Looks (model prog w) hp (isInstance (.ref x) (.type "BaseException")) true := L0.andThen (looks_mroIn X (by rw [c.mro]; simp [gG]))
 have hf : findObj K C o "__class__" = some (.bind (.builtin "getset_descriptor.__get__") (.builtin "object.__class__")) := by
  unfold findObj
  rw [hcd, Option.bind_some, c.cl, Option.bind_some]
  simp only [c.clg, c.clt, Option.bind_some]
 have L3 := looks_find (M := model prog w) X I hf
 unfold getAttr?
 refine wpAny_bind (wpAny_mkText ?_)
 unfold getAttrBy?
 refine wpAny_bind (wpAny_attempt ?_)
 unfold getAttrBy
 refine wpAny_holding (wpAny_bind (L0.at (wpAny_bind (L1.at ?_))))
 show wpAny _ _ (getAttrByItsOwn _ _ _ _ _ _) _ _ _
 unfold getAttrByItsOwn
 refine wpAny_bind ?_
 show wpAny _ _ (typeLookup (.ref C) "__getattr__") _ _ _
 refine L2.at (wpAny_bind (wpAny_attempt (wpAny_holding ?_)))
 unfold callGetattribute
 rw [show (false && onTheHeap (Value.builtin "BaseException.__getattribute__")) = false from rfl, if_neg Bool.false_ne_true]
 unfold boundAndCalled
 rw [PySem.F.excAttr_ValueError.ga.bind]
 refine wpAny_bind (wpAny_pure ?_)
 have hk : builtinKind "BaseException.__getattribute__" = some .slot := by decide +kernel
 have hsplit : splitId "BaseException.__getattribute__" = some ("BaseException", "__getattribute__") := by decide +kernel
 refine wpAny_call (codeAny_call_builtin PySem.F.excAttr_ValueError.ga.plain PySem.F.entry_bexc_ga (@check_slot (model prog w) _ _ _ "BaseException.__getattribute__" "BaseException" "__getattribute__" (.ref x) [.str "__class__" t] [] _ hk hsplit sub (PySem.F.args_bexc_ga (.ref x) (.str "__class__" t)) ?_))
 refine wpAny_bind (wpAny_pure (wpAny_bind (wpAny_pure ?_)))
 refine wpAny_bind (L0.at (wpAny_bind (L3.at ?_)))
 show wpAny _ _ (holding [.builtin "object.__class__"] (call (.builtin "getset_descriptor.__get__") [.builtin "object.__class__", .ref x, .ref C]) >>= ret) _ _ _
 refine wpAny_bind (wpAny_holding (wpAny_call (class_get (s := ⟨hp, g, d, t + 1, os⟩) X I (by rw [c.mro]; simp [gG]) ?_)))
 refine wpAny_pure ?_
 show wpAny _ _ (handedOut (.ref C)) _ _ _
 exact wpAny_pure (wpAny_pure h)
theorem aE3 {od : Option Addr} {o : Option Obj} (c : ExcC K W C) : KitX K (.ref x) (.ref C) (fun h => InstAt h x ⟨.ref C, od, .fields vs, #[]⟩ C o) where
 ty := fun _ _ _ I => I.type
 it := fun _ _ X _ => by
  obtain ⟨nm, q, N, bs, sn, sub, ab, col, dd, k0, k1, k2, k3, k5, e⟩ := c.lk
  intro A' Q' E' s' k q
  unfold isType loadHead
  exact wpAny_bind (wpAny_loadPart (k _ _ (X _ _ e)) (wpAny_pure q))
 ne := fun h tp dd its n sl X htp => by
  obtain ⟨nm, q, N, bs, sn, sub, ab, col, dd, k0, k1, k2, k3, k5, e⟩ := c.lk
  refine Bool.eq_false_iff.mpr fun q => ?_
  have e' : C = tp := Value.ref.inj (beq_iff_eq.mp q)
  subst e'
  have z := (X _ _ e).symm.trans htp
  have z' : Value.type "type" = Value.type "tuple" := congrArg Obj.cls (Option.some.inj z)
  exact absurd (Value.type.inj z') (by decide)
 ca := fun X I k => aC5 X c I k
theorem sW {od : Option Addr} {o : Option Obj} {cv : Value} {b : Bool} {Q : Value -> Shared -> Prop} (X : K.In s.heap) (c : ExcC K W C) (I : InstAt s.heap x ⟨.ref C, od, .fields vs, #[]⟩ C o) (e : kitOne K (.ref C) cv = some b) (h : ∀ tk, Q (.bool b) { s with toks := tk }) :
 wpAny (model prog w) A (call (.builtin "isinstance") [.ref x, cv]) Q E s := kia_one (aE3 c) X I e (fun z => nomatch z) h
end
end SX
namespace SX
open PySem PySem.W
def rO (h : Heap) (vs : Array Value) (e : Addr) (T : Option Addr) : Prop :=
 match T with
 | none => vs[1]? = some .none
 | some t => vs[1]? = some (.ref t) /\ t ≠ e /\ ∃ oT ts x, h.get? t = some oT /\ oT.data = .fields ts /\ ts[3]? = some x
section
variable {M : Model} {A : Around} {E : Value -> Shared -> Prop} {s : Shared}
structure Noted (FL : List Addr) (e : Addr) (T : Option Addr) (C : Addr) (od : Option Addr) (h h' : Heap) (T' : Option Addr) : Prop where
 keep : ∀ b o, b ∉ FL -> b ≠ e -> (∀ t, T = some t -> b ≠ t) -> h.get? b = some o -> h'.get? b = some o
 slot : ∀ b o, b ∈ FL -> h.get? b = some o -> ∃ sl, h'.get? b = some { o with slots := sl }
 exc : ∃ vs, h'.get? e = some ⟨.ref C, od, .fields vs, #[]⟩ /\ rO h' vs e T'
 new : (∃ t, T' = some t /\ h.objs.size <= t) \/ (T' = T /\ T ≠ none)
 there : ∀ t o, T = some t -> h.get? t = some o -> ∃ o', h'.get? t = some o'
theorem aE4 {base : Heap} {env : Env} {outer : List Env} {L e C : Addr} {od : Option Addr} {vs : Array Value} {T : Option Addr} {Q : Unit -> Shared -> Prop}
  (hfr : A.frames = some (env :: outer)) (hl : s.heap.FunFrames base (env :: outer)) (hf : env.frame = some L) (he : s.heap.get? e = some ⟨.ref C, od, .fields vs, #[]⟩) (ht : rO s.heap vs e T)
  (h : ∀ h' T', T' ≠ none -> Noted ((env :: outer).filterMap (·.frame)) e T C od s.heap h' T' -> Q () { s with heap := h' }) :
  wpAny M A (noteFrame (.ref e) env) Q E s := by
 have frF : ∀ b ∈ (env :: outer).filterMap (·.frame), ∃ o, s.heap.get? b = some o /\ ∀ vs, o.data ≠ .fields vs := fun b hb => (hl.mem hb).2
 have hene : e ∉ (env :: outer).filterMap (·.frame) := fun hm => by
  obtain ⟨o, ho, hnf⟩ := frF e hm
  rw [he] at ho; injection ho with ho; subst ho; exact hnf vs rfl
 have h1s : 1 < vs.size := by
  unfold rO at ht
  cases T with
  | none => exact (Array.getElem?_eq_some_iff.mp ht).1
  | some t => exact (Array.getElem?_eq_some_iff.mp ht.1).1
 have make : ∀ (hp : Heap) (head : Value) (hadNext : Bool), hp.FunFrames base (env :: outer) -> hp.objs.size = s.heap.objs.size -> hp.get? e = some ⟨.ref C, od, .fields vs, #[]⟩ ->
   (∀ b o, (∀ t, T = some t -> b ≠ t) -> s.heap.get? b = some o -> hp.get? b = some o) -> (∀ t o, T = some t -> s.heap.get? t = some o -> ∃ o', hp.get? t = some o' /\ t ∉ (env :: outer).filterMap (·.frame) /\ t ≠ e) ->
   wpAny M A (do let a <- frameOf env; let pl <- entryPlaceOf L hadNext; let b <- EntryCells.newEntry head a .none (rawInt L) .none pl; setField (.ref e) 1 b) Q E { s with heap := hp } := by
  intro hp head hadNext hlp hsz hep kp tp
  refine wpAny_bind (wpAny_frameOf_fun (s := { s with heap := hp }) hfr hlp hf fun h₁ hs₁ => ?_)
  refine wpAny_bind (wpAny_entryPlaceOf fun pl hpl => ?_)
  unfold EntryCells.newEntry newFields
  refine wpAny_bind (wpAny_newObj_type ?_ (hpl.sizeOk5 _ _ _ _ _))
  have he₁ : h₁.get? e = some ⟨.ref C, od, .fields vs, #[]⟩ := (hs₁.2.1 e hene).trans hep
  have he₂ := Heap.get?_push_of_some (h := h₁) { cls := .type "traceback", dict := none, data := .fields ([head, .ref L, .none, rawInt L, .none] ++ (if pl.isEmpty then List.replicate 6 Value.none else pl)).toArray } he₁
  refine wpAny_setField he₂ rfl h1s ?_
  have hTe : h₁.objs.size ≠ e := Nat.ne_of_gt (Heap.lt_size he₁)
  have he₃ := Heap.get?_update_self (Obj.mapFields (·.setIfInBounds 1 (Value.ref h₁.objs.size))) he₂ rfl
  have hT₃ := (Heap.get?_update_other (h₁.push { cls := .type "traceback", dict := none, data := .fields ([head, .ref L, .none, rawInt L, .none] ++ (if pl.isEmpty then List.replicate 6 Value.none else pl)).toArray })
   (Obj.mapFields (·.setIfInBounds 1 (Value.ref h₁.objs.size))) (Ne.symm hTe)).trans (Heap.get?_push_size h₁ rfl)
  have keep : ∀ b o, b ≠ e -> h₁.get? b = some o ->
    ((h₁.push { cls := .type "traceback", dict := none, data := .fields ([head, .ref L, .none, rawInt L, .none] ++ (if pl.isEmpty then List.replicate 6 Value.none else pl)).toArray }).update e (Obj.mapFields (·.setIfInBounds 1 (Value.ref h₁.objs.size)))).get? b = some o :=
   fun b o hbe hb => by
    rw [Heap.get?_update_other _ _ (Ne.symm hbe)]
    exact Heap.get?_push_of_some _ hb
  refine h _ (some h₁.objs.size) (by simp) ⟨fun b o hb hbe hbt q => ?_, fun b o hb q => ?_, ⟨vs.setIfInBounds 1 (.ref h₁.objs.size), ?_, ?_⟩, .inl ⟨_, rfl, by rw [hs₁.1, hsz]; exact Nat.le_refl _⟩, fun t o e1 e2 => ?_⟩
  ·exact keep b o hbe ((hs₁.2.1 b hb).trans (kp b o hbt q))
  ·have hbt : ∀ t, T = some t -> b ≠ t := fun t e1 z => by
    obtain ⟨o', q', z2, _⟩ := tp t o e1 (z ▸ q)
    exact z2 (z ▸ hb)
   obtain ⟨sl, q'⟩ := hs₁.2.2 b o (kp b o hbt q)
   exact ⟨sl, keep b _ (fun z => hene (z ▸ hb)) q'⟩
  ·exact he₃
  ·refine ⟨by simp [h1s], hTe, _, _, rawInt L, hT₃, rfl, by first | (simp; done) | (rcases hpl with rfl | ⟨_, _, _, _, _, _, _, rfl⟩ <;> simp)⟩
  ·obtain ⟨o', q', z2, z3⟩ := tp t o e1 e2
   exact ⟨o', keep t o' z3 ((hs₁.2.1 t z2).trans q')⟩
 unfold noteFrame
 simp only [hf]
 cases T with
 | none =>
  refine wpAny_bind (wpAny_field he rfl ht ?_)
  rw [if_neg (by decide)]
  exact make s.heap .none _ hl rfl he (fun b o _ q => q) (fun t o e1 => nomatch e1)
 | some t =>
  obtain ⟨ht1, hte, oT, ts, x, hT, hdT, h3⟩ := ht
  have tFL : t ∉ (env :: outer).filterMap (·.frame) := fun hm => by
   obtain ⟨o, ho, hnf⟩ := frF t hm
   rw [hT] at ho; injection ho with ho; subst ho; exact hnf ts hdT
  refine wpAny_bind (wpAny_field he rfl ht1 ?_)
  rw [if_pos (show (Value.ref t != Value.none) = true from by simp)]
  refine wpAny_bind (wpAny_field hT hdT h3 ?_)
  by_cases hx : (x == rawInt L) = true
  ·rw [if_pos hx]
   refine wpAny_pure (h s.heap (some t) (by simp) ⟨fun b o _ _ _ q => q, fun b o _ q => ⟨o.slots, q⟩, ⟨vs, he, ht1, hte, oT, ts, x, hT, hdT, h3⟩, .inr ⟨rfl, by simp⟩, fun t' o e1 q => ⟨o, q⟩⟩)
  ·rw [if_neg hx]
   refine wpAny_bind (wpAny_setField hT hdT (Array.getElem?_eq_some_iff.mp h3).1 ?_)
   have other : ∀ b, b ≠ t -> (s.heap.update t (Obj.mapFields (·.setIfInBounds 3 Value.none))).get? b = s.heap.get? b := fun b hb => Heap.get?_update_other _ _ (Ne.symm hb)
   have hT' := Heap.get?_update_self (Obj.mapFields (·.setIfInBounds 3 Value.none)) hT (Obj.isFreed_of_fields (Obj.data_mapFields hdT _))
   refine make (s.heap.update t (Obj.mapFields (·.setIfInBounds 3 Value.none))) _ _ (hl.of_keeps fun b o hb hnf => ⟨o, (other b fun q => ?_).trans hb, rfl⟩) (Heap.SameBut.update ..).1 ((other e (Ne.symm hte)).trans he) (fun b o hb q => (other b (hb t rfl)).trans q) (fun t' o e1 q => ?_)
   ·rw [q, hT] at hb; injection hb with hb; subst hb; exact hnf ts hdT
   ·cases e1
    exact ⟨_, hT', tFL, hte⟩
theorem aBM {e C t : Addr} {od : Option Addr} {vs : Array Value} {fr : Option Addr} {Q : Unit -> Shared -> Prop} (he : s.heap.get? e = some ⟨.ref C, od, .fields vs, #[]⟩) (ht : rO s.heap vs e (some t))
  (h : ∀ h', Heap.SameBut t s.heap h' -> rO h' vs e (some t) -> Q () { s with heap := h' }) : wpAny M A (setFlight (.ref e) fr) Q E s := by
 obtain ⟨ht1, hte, oT, ts, x, hT, hdT, h3⟩ := ht
 unfold setFlight
 refine wpAny_bind (wpAny_field he rfl ht1 ?_)
 rw [if_pos (show (Value.ref t != Value.none) = true from by simp)]
 have hsz := (Array.getElem?_eq_some_iff.mp h3).1
 refine wpAny_setField hT hdT hsz (h _ (Heap.SameBut.update ..) ⟨ht1, hte, _, _, _, Heap.get?_update_self _ hT (Obj.isFreed_of_fields (Obj.data_mapFields hdT _)), Obj.data_mapFields hdT _, Array.getElem?_setIfInBounds_self_of_lt hsz⟩)
end
end SX
namespace L2
open PySem PySem.Spec PyProof.Rows
def ExN (e C : Addr) (od : Option Addr) : HO := .ext fun h => ∃ vs, h.get? e = some ⟨.ref C, od, .fields vs, #[]⟩ /\ vs[1]? = some .none
def ExO (e C : Addr) (od : Option Addr) : HO := .ext fun h => ∃ vs, h.get? e = some ⟨.ref C, od, .fields vs, #[]⟩
section
variable {P : Program} {w : World} {H : Hp} {h : Heap} {e C : Addr} {od : Option Addr}
theorem aC6 {vs : Array Value} (a : h.get? e = some ⟨.ref C, od, .fields vs, #[]⟩) (b : vs[1]? = some .none) : cE P w H h e (ExN e C od) :=
 ⟨⟨vs, a, b⟩, ⟨_, a⟩, fun h1 h2 ⟨vs, a, b⟩ k => ⟨vs, k _ a, b⟩⟩
theorem xE {vs : Array Value} (a : h.get? e = some ⟨.ref C, od, .fields vs, #[]⟩) : cE P w H h e (ExO e C od) :=
 ⟨⟨vs, a⟩, ⟨_, a⟩, fun h1 h2 ⟨vs, a⟩ k => ⟨vs, k _ a⟩⟩
theorem xF (ok : HOk P w H h) (q : H e = some (ExN e C od)) : ∃ vs, h.get? e = some ⟨.ref C, od, .fields vs, #[]⟩ /\ vs[1]? = some .none := (ok e _ q).1
theorem sX (ok : HOk P w H h) (q : H e = some (ExO e C od)) : ∃ vs, h.get? e = some ⟨.ref C, od, .fields vs, #[]⟩ := (ok e _ q).1
end
structure FlyAt (X : Cx) (H : Hp) (h : Heap) (e C : Addr) (od : Option Addr) (traced : Bool) : Prop where
 tr : H e = some (ExO e C od)
 tb : ∃ vs T, h.get? e = some ⟨.ref C, od, .fields vs, #[]⟩ /\ SX.rO h vs e T /\ (∀ t, T = some t -> H t = none /\ X.s₀.heap.objs.size <= t /\ ∀ p ∈ X.pn, p.1 ≠ t) /\ (traced = true -> T ≠ none)
def Fly (X : Cx) (E : XK) (ev : Value) (s' : Shared) : Prop := ∃ e C od σ H', ev = .ref e /\ Inv X [] σ H' s' /\ FlyAt X H' s'.heap e C od false /\ E (.ref C) (some e) H'
abbrev Cx.fly (X : Cx) (E : XK) : Cx := X.wish (Fly X E)
def mD (X : Cx) : Prop := X.stack = X.env :: X.outer /\ X.env.frame = some X.env.locals
section
variable {X : Cx} {σ : St} {H : Hp} {s : Shared} {e C : Addr} {od : Option Addr} {b : Bool}
theorem xG (I : Inv X [] σ H s) {t : Addr} {oT : Obj} {ts : Array Value} (hT : s.heap.get? t = some oT) (hd : oT.data = .fields ts) : t ≠ X.env.locals /\ (∀ x c, X.env.cells.lookup x = some c -> c ≠ t) := by
 refine ⟨fun z => ?_, fun x c q z => ?_⟩
 ·obtain ⟨m, ⟨o, es, ep, ho, hd', _⟩, _⟩ := I.loc
  rw [<- z, hT] at ho; cases ho; rw [hd] at hd'; cases hd'
 ·obtain ⟨v, o, ho, hd'⟩ := I.cell x c q
  rw [z, hT] at ho; cases ho; rw [hd] at hd'; cases hd'
theorem nZ {Q : Unit -> Shared -> Prop} {E' : Value -> Shared -> Prop} (hO : mD X) (I : Inv X [] σ H s) (f : FlyAt X H s.heap e C od b) (h : ∀ s', Inv X [] σ H s' -> FlyAt X H s'.heap e C od true -> Q () s') :
  wpAny (model X.prog X.w) X.A (noteFrame (.ref e) X.env) Q E' s := by
 obtain ⟨hst, hfm⟩ := hO
 obtain ⟨vs, T, he, ht, hT, _⟩ := f.tb
 have hfr : X.A.frames = some (X.env :: X.outer) := by rw [<- hst]; exact I.ok.frames
 have hl : s.heap.FunFrames X.base (X.env :: X.outer) := by have := I.stack; rw [hst] at this; exact this
 have hFL : (X.env :: X.outer).filterMap (·.frame) = X.env.locals :: X.fs := by rw [List.filterMap_cons, hfm]; rfl
 refine SX.aE4 (T := T) hfr hl hfm he ht fun h' T' hT' N => ?_
 rw [hFL] at N
 have trk : ∀ c u, H c = some u -> c ∉ X.env.locals :: X.fs := fun c u q z => by
  have := I.stkFree c (by unfold frs; rw [hst, hFL]; exact z)
  rw [q] at this; cases this
 have nT : ∀ c u, H c = some u -> ∀ t, T = some t -> c ≠ t := fun c u q t e1 z => by
  have := (hT t e1).1
  rw [<- z, q] at this; cases this
 have hok' : HOk X.prog X.w H h' := fun c u q => by
  by_cases hc : c = e
  ·subst hc
   rw [f.tr] at q; cases q
   obtain ⟨vs', q', _⟩ := N.exc
   exact xE q'
  ·refine (I.hok c u q).stay (fun c' v hc' q' => N.keep c' v ?_ ?_ ?_ q') (fun _ q => q) (fun _ _ q => q) fun _ _ q => q
   ·rcases hc' with z | z
    ·rw [z]; exact trk c u q
    ·exact trk c' _ z
   ·rcases hc' with z | z
    ·rw [z]; exact hc
    ·intro zz; rw [zz, f.tr] at z; cases z
   ·rcases hc' with z | z
    ·rw [z]; exact nT c u q
    ·exact nT c' _ z
 have I' : Inv X [] σ H { s with heap := h', gens := s.gens, drawn := s.drawn, toks := s.toks } := by
  refine I.step (ch := T.toList) (fun c hc => ?_) (fun c o h1 h2 h3 q n => ?_) (fun c o h1 h2 h3 q n => N.slot c o (List.mem_cons_of_mem _ h2) q) (fun _ _ _ _ n => n) (fun c o h3 q => ?_) (fun _ _ q => q) (fun _ _ _ q => q) (fun _ _ q => q) (fun m hm => ?_) hok' I.bare
  ·have e1 : T = some c := by cases T <;> simp at hc; rw [hc]
   obtain ⟨t1, t2, t3⟩ := hT c e1
   rw [e1] at ht
   obtain ⟨_, _, oT, ts, x, hTo, hTd, _⟩ := ht
   obtain ⟨a1, a2⟩ := xG I hTo hTd
   exact ⟨.inr t2, a1, a2, fun p hp => t3 p (by simpa using hp)⟩
  ·refine N.keep c o ?_ ?_ ?_ q
   ·intro z
    rcases List.mem_cons.mp z with z | z
    ·exact h1 z
    ·exact h2 z
   ·intro z; rw [z, f.tr] at n; cases n
   ·intro t e1 z; exact h3 (by rw [e1, z]; simp)
  ·by_cases hc : c = e
   ·subst hc
    obtain ⟨vs', q', _⟩ := N.exc
    exact ⟨_, q'⟩
   ·by_cases hF : c ∈ X.env.locals :: X.fs
    ·obtain ⟨sl, q'⟩ := N.slot c o hF q
     exact ⟨_, q'⟩
    ·exact ⟨o, N.keep c o hF hc (fun t e1 z => h3 (by rw [e1, z]; simp)) q⟩
  ·obtain ⟨o, es, ep, ho, r⟩ := hm
   obtain ⟨sl, q'⟩ := N.slot _ o List.mem_cons_self ho
   exact ⟨_, es, ep, q', r⟩
 refine h _ I' ⟨f.tr, ?_⟩
 obtain ⟨vs', q', t'⟩ := N.exc
 refine ⟨vs', T', q', t', fun t e1 => ?_, fun _ => hT'⟩
 rcases N.new with ⟨t2, e2, hle⟩ | ⟨e2, _⟩
 ·rw [e1] at e2; cases e2
  refine ⟨I.hok.fresh hle, Nat.le_trans I.sz hle, fun p hp z => ?_⟩
  have := Heap.lt_size (I.pin p (List.mem_append_left _ hp)).1
  rw [z] at this
  exact absurd (Nat.lt_of_lt_of_le this hle) (Nat.lt_irrefl _)
 ·exact hT t (e2 ▸ e1)
theorem nF {Q : Unit -> Shared -> Prop} {E' : Value -> Shared -> Prop} {fr : Option Addr} {A : Around} (I : Inv X [] σ H s) (f : FlyAt X H s.heap e C od true) (h : ∀ s', Inv X [] σ H s' -> FlyAt X H s'.heap e C od true -> Q () s') :
  wpAny (model X.prog X.w) A (setFlight (.ref e) fr) Q E' s := by
 obtain ⟨vs, T, he, ht, hT, hn⟩ := f.tb
 cases T with
 | none => exact absurd rfl (hn rfl)
 | some t =>
  obtain ⟨t1, t2, t3⟩ := hT t rfl
  refine SX.aBM he ht fun h' sb ht' => ?_
  obtain ⟨_, hte, oT, ts, x, hTo, hTd, _⟩ := ht
  obtain ⟨a1, a2⟩ := xG I hTo hTd
  have I' : Inv X [] σ H { s with heap := h' } := I.turned (t' := s.toks) (it := t) (fun b o hb q => (sb.2 b hb).trans q) t1 a1 (.inr t2) a2 fun p hp => t3 p (by simpa using hp)
  exact h _ I' ⟨f.tr, vs, some t, (sb.2 e (Ne.symm hte)).trans he, ht', fun t' e1 => by cases e1; exact ⟨t1, t2, t3⟩, fun _ => by simp⟩
theorem aC7 {Q : Value -> Shared -> Prop} {E' : Value -> Shared -> Prop} {A : Around} (f : FlyAt X H s.heap e C od true) (h : ∀ t, Q (.ref t) s) : wpAny (model X.prog X.w) A (field (.ref e) 1) Q E' s := by
 obtain ⟨vs, T, he, ht, hT, hn⟩ := f.tb
 cases T with
 | none => exact absurd rfl (hn rfl)
 | some t => exact wpAny_field he rfl ht.1 (h t)
theorem eE {E : XK} (hO : mD X) : PassesOwn (model X.prog X.w) X.A X.env (Fly X E) := by
 rintro ev s' ⟨e, C, od, σ, H, rfl, I, f, q⟩
 refine nZ hO I f fun s2 I2 f2 => ?_
 unfold cameBackBy
 refine wpAny_bind (aC7 f2 fun t => ?_)
 rw [if_neg (by simp)]
 exact nF I2 f2 fun s3 I3 f3 => ⟨e, C, od, σ, H, rfl, I3, ⟨f3.tr, let ⟨vs, T, a, b, c, _⟩ := f3.tb; ⟨vs, T, a, b, c, fun z => nomatch z⟩⟩, q⟩
end
def CXe (P : Program) (w : World) : CXT := fun outer H s E ev s' => ∃ e C od H', ev = .ref e /\ s'.os = s.os /\ AllBare s'.gens /\ Un (frs outer) [] H H' s.heap s'.heap /\ HOk P w H' s'.heap /\ H' e = some (ExO e C od) /\
 (∃ vs T, s'.heap.get? e = some ⟨.ref C, od, .fields vs, #[]⟩ /\ SX.rO s'.heap vs e T /\ ∀ t, T = some t -> H' t = none /\ s.heap.objs.size <= t) /\ E (.ref C) (some e) H'
section
variable {X : Cx}
theorem cL {E E' : XK} (hE : ∀ c e H, E c e H -> E' c e H) : lP (CXe X.prog X.w) (X.fly E') E := by
 rintro pins σ H s ev s' I ⟨e, C, od, H', rfl, os, bare, un, hok, he, ⟨vs, T, q1, q2, q3⟩, q⟩
 have I0 : Inv X pins σ H s := I.unwish
 have I1 : Inv X [] σ H s := I0.pins_of fun p hp => absurd hp (by simp)
 have I2 : Inv X [] σ H' s' := I1.call' os un hok bare (fun b hb => absurd hb (by simp))
 refine ⟨e, C, od, σ, H', rfl, I2, ⟨he, vs, T, q1, q2, fun t e1 => ?_, fun z => nomatch z⟩, hE _ _ _ q⟩
 obtain ⟨t1, t2⟩ := q3 t e1
 refine ⟨t1, Nat.le_trans I0.sz t2, fun p hp z => ?_⟩
 have := Heap.lt_size (I0.pin p (List.mem_append_left _ hp)).1
 rw [z] at this
 exact absurd (Nat.lt_of_lt_of_le this t2) (Nat.lt_irrefl _)
theorem PSs.unfly {E : XK} {st : List Stmt} {t : TS} (h : PSs (X.fly E) st t) (hx : ∀ e s', Fly X E e s' -> X.xe e s') : PSs X st t := fun pins s σ H D I hw =>
 wpAny_mono (h pins s σ H D (I.wish _) hw) (fun f s' q => SP.unwish q) hx
end
theorem vT {P : Program} {w : World} {K : Frag} {mg : Str -> Option Value} {base : Heap} {N : List Str} {qual : Str} {scope : Scope} {f : Addr} {cd : Value} {A : Around} {outer : List Env} {s : Shared} {H : Hp} {E : XK} {ev : Value} {s' : Shared}
  (h : Fly (jM (CXe P w) P w K mg base N qual scope f cd A outer s H E) E ev s') : (jM (CXe P w) P w K mg base N qual scope f cd A outer s H E).xe ev s' := by
 obtain ⟨e, C, od, σ, H', rfl, I, fl, q⟩ := h
 show wpAny (model P w) _ (leaving _ (.ref e)) _ _ s'
 unfold leaving
 have hO : mD (jM (CXe P w) P w K mg base N qual scope f cd A outer s H E) := ⟨rfl, rfl⟩
 refine wpAny_bind (nZ hO I fl fun s2 I2 f2 => nF I2 f2 fun s3 I3 f3 => ?_)
 obtain ⟨vs, T, a, b, c, _⟩ := f3.tb
 exact ⟨e, C, od, H', rfl, I3.os, I3.bare, I3.base, I3.hok, f3.tr, ⟨vs, T, a, b, fun t e1 => ⟨(c t e1).1, (c t e1).2.1⟩⟩, q⟩
section
variable {P : Program} {w : World} {K : Frag} {mg : Str -> Option Value} {base : Heap}
theorem Fun.okX {x qual : Str} {st : Stmt} {f : Addr} {fd : FuncData} {N ps : List Str} {k : Nat} {sp : Sp} (F : Fun K x qual st f fd) (S : FnScope N ps (aO st)) (len : ∀ vs H Q E, sp vs H Q E -> vs.length = ps.length)
  (hbody : ∀ (cdv : Value) (A : Around) (outer : List Env) (s : Shared) (H : Hp) (vs : List V) (Q : VK) (E : XK), Room k (A.deeper (envOfC qual (aO st) s.heap.objs.size f cdv)) -> sp vs H Q E ->
   ∃ t, PSs ((jM (CXe P w) P w K mg base N qual (aO st) f cdv A outer s H E).fly E) (c8 st) t /\ t { nx := fun _ H' => Q .non H', rt := Q } (start N vs) H) : FnOk P w K mg base (CXe P w) (k + 1) f fd ps sp := by
 obtain ⟨oc, od, kV, doc, pm, an, cdv, ct, osl, rfl, lk, hcd⟩ := F.ex
 refine aBH lk hcd S len fun A outer s H vs Q E hr hsp => ?_
 obtain ⟨t, h, q⟩ := hbody cdv A outer s H vs Q E hr hsp
 exact ⟨t, h.unfly fun _ _ z => vT z, q⟩
end
end L2
namespace L2
open PySem PySem.Spec PyProof.Rows
theorem Inv.xdw {X : Cx} {pins : List (Addr × Obj)} {σ : St} {H : Hp} {s : Shared} {h' : Heap} {d : Addr} {fs fs' : List (Str × V)} {t' : Nat} (I : Inv X pins σ H s) (hd : H d = some (.xd fs)) (sb : Heap.SameBut d s.heap h')
  (new : cE X.prog X.w (upd H d (.xd fs')) h' d (.xd fs')) : Inv X pins σ (upd H d (.xd fs')) { s with heap := h', toks := t' } := by
 have nd : ∀ b (u : Obj), H b = none -> b ≠ d := fun b u e z => by rw [z, hd] at e; cases e
 refine I.un ⟨fun b o q n _ _ => (sb.2 b (nd b o n)).trans q, fun b o q n hb => ?_, fun b o q n _ => by rw [aG (nd b o n)]; exact n, fun b o q _ => ?_, fun b xs q => ?_, fun b o u q => ?_, fun b ps q => ?_⟩ fun b u q => ?_
 ·exact fun _ => ⟨o.slots, (sb.2 b (nd b o n)).trans q⟩
 ·by_cases z : b = d
  ·obtain ⟨o', e⟩ := (show ∃ o', h'.get? d = some o' from let ⟨mA, ⟨o, _, _, e, _⟩, _⟩ := new; ⟨o, e⟩)
   exact ⟨o', z ▸ e⟩
  ·exact ⟨o, (sb.2 b z).trans q⟩
 ·rw [aG (fun z => by rw [z, hd] at q; cases q)]; exact q
 ·rw [aG (fun z => by rw [z, hd] at q; cases q)]; exact q
 ·rw [aG (fun z => by rw [z, hd] at q; cases q)]; exact q
 ·by_cases z : b = d
  ·subst z; rw [aW] at q; cases q; exact new
  ·rw [aG z] at q
   refine (I.hok b u q).stay (fun c v hc r => (sb.2 c ?_).trans r) (fun c r => ?_) (fun c xs r => ?_) fun c xs r => ?_
   ·rcases hc with z2 | z2
    · rw [z2]; exact z
    · intro z3; rw [z3, hd] at z2; cases z2
   ·rw [aG (fun z3 => by rw [z3, hd] at r; cases r)]; exact r
   ·rw [aG (fun z3 => by rw [z3, hd] at r; cases r)]; exact r
   ·rw [aG (fun z3 => by rw [z3, hd] at r; cases r)]; exact r
def aMW (K : Frag) (ta tv : TE) (f : Str) : TS := fun D σ H => tv σ H fun y H1 => ta σ H1 fun x H2 => ∃ a W C, x = .ref a /\ SX.ExcC K W C /\ PySem.W.findIn K (.ref C) f = some none /\
 ((H2 a = some (ExN a C none) /\ ∀ d, H2 d = none -> d ≠ a -> D.nx σ (upd (upd H2 a (ExN a C (some d))) d (.xd [(f, y)]))) \/
  (∃ d fs, H2 a = some (ExN a C (some d)) /\ H2 d = some (.xd fs) /\ fs.length < 1000 /\ D.nx σ (upd H2 d (.xd (uJ f y fs)))))
section
variable {X : Cx} {o e value : Expr} {f : Str} {pos pos' : Pos} {ta tv : TE}
theorem aC8 {fs : List (Str × V)} {mA : Str -> Option Value} (r : ∀ f, g8 (fs.lookup f) (mA f)) : PySem.Within mA (fs.map (·.1)) := fun y hy => by
 cases q : fs.lookup y with
 | none => exact absurd (g8.none_of (by rw [<- q]; exact r y)) hy
 | some v => exact List.mem_map.mpr ⟨(y, v), PySem.mem_of_lookup q, rfl⟩
theorem aHL (ha : PE X o ta) (hv : PE X value tv) (hs : swapsWith value (some (.Attribute o f pos')) pos.line X.env = pure false) : PS X (.Assign [.Attribute o f pos'] value pos) (aMW X.K ta tv f) := by
 intro pins s σ H D I h
 refine plainObj_wpAny_Assign_Attribute (thn (hv pins s σ H _ I h) fun u s1 ⟨y, H1, I1, ry, q⟩ => thn (ha pins s1 σ H1 _ I1 q) fun ov s2 zz0 => ?_) hs
 obtain ⟨x, H2, I2, rx, a, W, C, ex, c, n, q2⟩ := zz0
 subst ex
 obtain rfl : ov = Value.ref a := rx
 rcases q2 with ⟨ea, q2⟩ | ⟨d, fs, ea, ed, hl, q2⟩
 ·obtain ⟨vs, hx, h1⟩ := xF I2.hok ea
  refine SX.aC3 I2.kIn c n hx fun h' tk' hx' hns kp => ?_
  have fd : H2 s2.heap.objs.size = none := I2.hok.fresh (Nat.le_refl _)
  have ne : s2.heap.objs.size ≠ a := Nat.ne_of_gt (Heap.lt_size hx)
  refine ⟨σ, _, ?_, q2 s2.heap.objs.size fd ne⟩
  have nea : ∀ b (u : Obj), H2 b = none -> b ≠ a := fun b u z zz => by rw [zz, ea] at z; cases z
  have ned : ∀ b u, H2 b = some u -> b ≠ s2.heap.objs.size := fun b u z => bG z fd
  have hokA : HOk X.prog X.w (upd (upd H2 a (ExN a C (some s2.heap.objs.size))) s2.heap.objs.size (.xd [(f, y)])) h' := fun b u z => by
   by_cases hb : b = s2.heap.objs.size
   ·subst hb; rw [aW] at z; cases z
    refine ⟨_, hns, fun g => ?_⟩
    show g8 (List.lookup g [(f, y)]) (if g = f then some u else none)
    rw [List.lookup_cons]
    by_cases hg : g = f
    ·subst hg; rw [if_pos rfl]; simp only [beq_self_eq_true]; exact ry
    ·rw [if_neg hg, beq_false_of_ne hg]; exact True.intro
   ·rw [aG hb] at z
    by_cases hb2 : b = a
    ·subst hb2; rw [aW] at z; cases z
     exact aC6 hx' h1
    ·rw [aG hb2] at z
     refine (I2.hok b u z).stay (fun c' v hc r => kp c' v ?_ r) (fun c' r => ?_) (fun c' xs r => ?_) fun c' xs r => ?_
     ·rcases hc with z2 | z2
      · rw [z2]; exact hb2
      · intro z3; rw [z3, ea] at z2; cases z2
     ·rw [aG (ned c' _ r), aG (fun z3 => by rw [z3, ea] at r; cases r)]; exact r
     ·rw [aG (ned c' _ r), aG (fun z3 => by rw [z3, ea] at r; cases r)]; exact r
     ·rw [aG (ned c' _ r), aG (fun z3 => by rw [z3, ea] at r; cases r)]; exact r
  refine I2.un (t' := tk') ⟨fun b ob q n _ _ => kp b ob (nea b ob n) q, fun b ob q n _ _ => ⟨ob.slots, kp b ob (nea b ob n) q⟩, fun b ob q n _ => by rw [aG (Nat.ne_of_lt (Heap.lt_size q)), aG (nea b ob n)]; exact n, fun b ob q _ => ?_, fun b xs q => ?_, fun b ob u' q => ?_, fun b ps q => ?_⟩ hokA
  ·by_cases z : b = a
   ·subst z; exact ⟨_, hx'⟩
   ·exact ⟨ob, kp b ob z q⟩
  ·rw [aG (ned b _ q), aG (fun z3 => by rw [z3, ea] at q; cases q)]; exact q
  ·rw [aG (ned b _ q), aG (fun z3 => by rw [z3, ea] at q; cases q)]; exact q
  ·rw [aG (ned b _ q), aG (fun z3 => by rw [z3, ea] at q; cases q)]; exact q
 ·obtain ⟨vs, hx, h1⟩ := xF I2.hok ea
  obtain ⟨mA, hns, r⟩ := (show cE X.prog X.w H2 s2.heap d (.xd fs) from I2.hok d _ ed)
  have ne : d ≠ a := fun z => by rw [z, ea] at ed; cases ed
  refine SX.aE2 (ns := fs.map (·.1)) I2.kIn c n hx ne hns (aC8 r) (by rw [List.length_map, sizeLine_eq]; omega) fun h' tk' hns' sb => ?_
  refine ⟨σ, _, I2.xdw (t' := tk') ed sb ⟨_, hns', fun g => ?_⟩, q2⟩
  show g8 ((uJ f y fs).lookup g) (if g = f then some u else mA g)
  rw [rD]
  by_cases q : g = f
  ·rw [if_pos q, if_pos q]; exact ry
  ·rw [if_neg q, if_neg q]; exact r g
def aGG (K : Frag) (ta : TE) (f : Str) : TE := fun σ H Q => ta σ H fun x H1 => ∃ a W C d fs v, x = .ref a /\ SX.ExcC K W C /\ PySem.W.findIn K (.ref C) f = some none /\ H1 a = some (ExO a C (some d)) /\ H1 d = some (.xd fs) /\ fs.lookup f = some v /\ Q v H1
theorem aHM (he : PE X e ta) (hb : attributeBase e f X.env (eval e X.env) = eval e X.env) : PE X (.Attribute e f pos) (aGG X.K ta f) := by
 intro pins s σ H Q I h
 refine aG9 hb (thn (he pins s σ H _ I h) fun u s1 zz0 => ?_)
 obtain ⟨x, H1, I1, rx, a, W, C, d, fs, v, ex, c, n, ea, ed, l, q⟩ := zz0
 subst ex
 obtain rfl : u = Value.ref a := rx
 obtain ⟨vs, hx⟩ := sX I1.hok ea
 obtain ⟨mA, hns, r⟩ := (show cE X.prog X.w H1 s1.heap d (.xd fs) from I1.hok d _ ed)
 obtain ⟨od, hod, hlk⟩ := mC hns
 obtain ⟨uv, euv, ruv⟩ := g8.some_of (by rw [<- l]; exact r f)
 obtain ⟨cd, hc1, hc2, _⟩ := c.cls
 refine SX.aHK (o := some od) I1.kIn c ⟨hx, rfl, rfl, hod⟩ (PySem.W.findObj_own (attr := none) (by unfold PySem.W.hasDictIn; rw [hc1]; exact hc2) n rfl (by rw [hlk, euv])) (aCX ruv) ?_
 exact ⟨v, H1, I1.tok _, ruv, q⟩
end
inductive TyX (K : Frag) (H : Hp) : V -> Value -> Prop where
 | pl {x : V} {t : Value} (h : TyOf K H x t) : TyX K H x t
 | exc {a W C : Addr} {d : Addr} {fs : List (Str × V)} (c : SX.ExcC K W C) (e : H a = some (ExO a C (some d))) (ed : H d = some (.xd fs)) : TyX K H (.ref a) (.ref C)
 | exc0 {a W C : Addr} (c : SX.ExcC K W C) (e : H a = some (ExO a C none)) : TyX K H (.ref a) (.ref C)
def aBN : V -> Option Value
 | .ty n => some (.type n)
 | .ref a => some (.ref a)
 | _ => none
theorem uN {x : V} {u v : Value} (h : aBN x = some v) (r : bC x u) : u = v := by
 cases x with
 | ty n => cases h; exact r
 | ref a => cases h; exact r
 | _ => cases h
theorem kI {X : Cx} : iX X (.builtin "isinstance") (fun xs H Q => ∃ x c t cv b, xs = [x, c] /\ TyX X.K H x t /\ aBN c = some cv /\ PySem.W.kitOne X.K t cv = some b /\ Q (.bl b) H) := by
 intro pins s σ H xs us Q I r h
 obtain ⟨x, c, t, cv, b, rfl, ty, hc, e, q⟩ := h
 obtain ⟨u, v, rfl, ru, rv⟩ := sQ r
 obtain rfl := uN hc rv
 cases ty with
 | pl ty => exact aCY I ru ty e fun tk => ⟨.bl b, H, I.tok _, rfl, q⟩
 | @exc a W C d fs cc ea ed =>
  cases (show u = Value.ref a from ru)
  obtain ⟨vs, hx⟩ := sX I.hok ea
  obtain ⟨mA, hns, r⟩ := (show cE X.prog X.w H s.heap d (.xd fs) from I.hok d _ ed)
  obtain ⟨od, hod, _⟩ := mC hns
  exact SX.sW (o := some od) I.kIn cc ⟨hx, rfl, rfl, hod⟩ e fun tk => ⟨.bl b, H, I.tok _, rfl, q⟩
 | @exc0 a W C cc ea =>
  cases (show u = Value.ref a from ru)
  obtain ⟨vs, hx⟩ := sX I.hok ea
  exact SX.sW (o := none) I.kIn cc ⟨hx, rfl, rfl, True.intro⟩ e fun tk => ⟨.bl b, H, I.tok _, rfl, q⟩
def xH (C : Addr) (spI : Sp) (E : XK) (ta : TA) : TS := fun _ σ H => ta σ H fun vs H1 => vs.length <= 1000 /\ ∀ e, H1 e = none ->
 spI (.ref e :: vs) (upd H1 e (ExN e C none)) (fun v H2 => v = .non /\ ∃ od, H2 e = some (ExN e C od) /\ E (.ref C) (some e) (upd H2 e (ExO e C od))) E0
section
variable {X : Cx} {E : XK} {W C fI : Addr} {fdI : FuncData} {ps : List Str} {spI : Sp} {k : Nat} {x : Str} {np cpos pos : Pos} {e0 : Expr} {rest : List Expr} {ta : TA}
theorem rP (hc : X.calm = true) (c : SX.ExcC X.K W C) (hg : Gl X x) (hm : X.mg x = some (.ref C)) (FI : FnOk X.prog X.w X.K X.mg X.base CX0 k fI fdI ps spI) (hi : PySem.W.findIn X.K (.ref C) "__init__" = some (some (.ref fI)))
  (hf : PySem.W.typeIn X.K (.ref fI) = some (.type "function")) (hb : gN X.K fdI ps []) (hr : Room (k + 1) X.A) (ha : PA (X.fly E) (e0 :: rest) ta) (hdb : (x == ("__debug__" : Str)) = false := by decide)
  (he : starEach (e0 :: rest) X.env = (false, eval e0 X.env) :: starEach rest X.env := by rfl) (hpl : (backTo cpos (starEach rest X.env)).any (·.1) = false := by rfl) :
  PS (X.fly E) (.Raise (some (.Call (.Name x np) (e0 :: rest) [] cpos)) none pos) (xH C spI E ta) := by
 intro pins s σ H D I h
 obtain ⟨nm, q, N, bs, sn, sub, ab, col, dd, k0, k1, k2, k3, k5, lk⟩ := c.lk
 have core : wpAny (model X.prog X.w) X.A (eval (.Call (.Name x np) (e0 :: rest) [] cpos) X.env) (fun v s1 => ∃ e od vs, v = .ref e /\ s1.heap.get? C = some (excClassObj nm q C N bs (.ref W :: SX.gG) true sn sub ab col dd k0 k1 k2 k3 k5 "ValueError.__new__") /\
   s1.heap.get? e = some { cls := .ref C, dict := od, data := .fields vs } /\ vs[1]? = some .none /\ Fly X E (.ref e) s1) (Fly X E) s := by
  refine wpAny_Call_Name_kw (j4 (X := X) I.unwish hg hm ?_ hdb)
  refine PySem.W.callWith_K (h₀ := X.base) I.ok.mod.kin c.kp (thn (ha cpos pins s σ H _ I h) fun us s1 ⟨vs, H1, I1', r, hz, q1⟩ => ⟨I1'.kIn, ?_⟩) he hpl
  have I1 : Inv X pins σ H1 s1 := I1'.unwish
  obtain ⟨hp, g, d, tk, os⟩ := s1
  have hz' : us.length <= sizeLine := by rw [<- r.length, sizeLine_eq]; omega
  refine SX.aE1 PySem.F.excBase_ValueError (SX.uM W) I1.kIn (I1.kIn _ _ lk) hi hf (fun h' e hm' hle => ?_) hz'
  obtain ⟨t, het, _, _⟩ := hm'.there
  have I2 : Inv X pins σ (upd H1 e (ExN e C none)) ⟨h', g, d, tk, os⟩ := I1.laid (t' := tk) hm'.keeps hle (aC6 het rfl)
  have q2 := q1 e (I1.hok.fresh hle)
  have r2 : bN (V.ref e :: vs) (Value.ref e :: us) := .cons rfl r
  have hl : (Value.ref e :: us ++ []).length = ps.length := by
   have z := r2.length
   rw [FI.len _ _ _ _ q2] at z
   rw [List.append_nil]
   exact z.symm
  have hl' : (Value.ref e :: us).length = ps.length := by rw [List.append_nil] at hl; exact hl
  have bb := hb ⟨h', g, d, tk, os⟩ (Value.ref e :: us) I2.kIn hl
  rw [List.append_nil] at bb
  refine wpAny_call (codeAny_mono (FI.run _ X.stack ⟨h', g, d, tk, os⟩ _ ⟨Value.ref e :: us, []⟩ (Value.ref e :: us) (V.ref e :: vs) _ E0 (hr.make C us []) (I2.env0.make C us []) bb r2 q2) fun res s' hq => ?_)
  cases res with
  | error e => exact False.elim hq
  | ok fl =>
   cases fl with
   | next => exact False.elim hq
   | brk => exact False.elim hq
   | cont => exact False.elim hq
   | ret u =>
    obtain ⟨v, H3, I3, rv, ev, od, ee, q3⟩ := I2.after hq
    subst ev
    obtain ⟨vs', hx, h1⟩ := xF I3.hok ee
    refine ⟨rv, e, od, vs', rfl, I3.kIn _ _ lk, hx, h1, ?_⟩
    have I4 : Inv X pins σ (upd H3 e (ExO e C od)) { s' with heap := s'.heap, toks := s'.toks } := I3.write (x := e) (e := e) (by rw [ee]; exact True.intro) (.inl rfl) (fun b u _ z => z) ⟨_, hx⟩ (xE hx)
    have I5 : Inv X [] σ (upd H3 e (ExO e C od)) s' := (show Inv X pins σ _ s' from I4).pins_of fun p hp => absurd hp (by simp)
    exact ⟨e, C, od, σ, _, rfl, I5, ⟨aW, vs', none, hx, h1, (fun t z => nomatch z), (fun z => nomatch z)⟩, q3⟩
 show wpAny (model X.prog X.w) X.A (exec (.Raise (some (.Call (.Name x np) (e0 :: rest) [] cpos)) none pos) X.env) _ (Fly X E) s
 rw [arm_exec_Raise]
 first
  | refine wpAny_bind (wpAny_standAt (SX.k7 (SX.uM W) (I.ok.hd hc) (wpAny_bind (wpAny_mono core (fun v s1 h1 => wpAny_bind (wpAny_standAt (wpAny_pure h1))) fun _ _ z => z))))
  | (simp only [evalOpt, Option.map]; refine wpAny_bind (wpAny_standAt (SX.k7 (SX.uM W) (I.ok.hd hc) (wpAny_bind (wpAny_mono core (fun v s1 h1 => wpAny_bind (wpAny_standAt (wpAny_pure h1))) fun _ _ z => z)))))
end
end L2
namespace SX
open PySem PySem.W
structure ExcAny (K : Frag) (C : Addr) (bm : List Value) : Prop where
 lk : ∃ nm q N bs hd sn sub ab col dd k0 k1 k2 k3 k5 newId, K.lookup C = some (excClassObj nm q C N bs bm hd sn sub ab col dd k0 k1 k2 k3 k5 newId)
 base : bm.contains (.type "BaseException") = true
theorem ExcC.any {K : Frag} {W C : Addr} (c : ExcC K W C) : ExcAny K C (.ref W :: gG) := by
 obtain ⟨nm, q, N, bs, sn, sub, ab, col, dd, k0, k1, k2, k3, k5, e⟩ := c.lk
 exact ⟨⟨_, _, _, _, _, _, _, _, _, _, _, _, _, _, _, _, e⟩, (uM W).hasBase⟩
theorem zR {M : Model} {A : Around} {E : Value -> Shared -> Prop} {K : Frag} {C W : Addr} {bmC bmW : List Value} {s : Shared} {e : Addr} {oe : Obj} {Q : Bool -> Shared -> Prop} (X : K.In s.heap) (c : ExcAny K C bmC) (w : ExcAny K W bmW)
  (he : s.heap.get? e = some oe) (hcls : oe.cls = .ref C) (hq : Q ((Value.ref C :: bmC).contains (.ref W)) s) : wpAny M A (excMatches (.ref e) (.ref W)) Q E s := by
 obtain ⟨nm, q, N, bs, hd, sn, sub, ab, col, dd, k0, k1, k2, k3, k5, nid, lC⟩ := c.lk
 obtain ⟨nm', q', N', bs', hd', sn', sub', ab', col', dd', k0', k1', k2', k3', k5', nid', lW⟩ := w.lk
 have hC := X _ _ lC
 have hW := X _ _ lW
 have hcB : (Value.ref W :: bmW).contains (.type "BaseException") = true := by rw [List.contains_cons, w.base, Bool.or_true]
 have f := tc_notTuple
 obtain ⟨hp, g, d, t, os⟩ := s
 unfold excMatches
 repeat (first | (with_reducible refine wpAny_loadPart_at he ?_; rw [hcls]) | with_reducible refine wpAny_loadPart_at hW ?_ | (with_reducible refine wpAny_isSubtype_exc hW ?_; rw [hcB]) | with_reducible refine wpAny_isSubtype_exc hC ?_ | wp_step)
 cases hb : (Value.ref C :: bmC).contains (.ref W) <;> (rw [hb] at hq; wp_walk; exact hq)
end SX
namespace L2
open PySem PySem.Spec PyProof.Rows
abbrev Cx.pnw (X : Cx) (pn : List (Addr × Obj)) : Cx := { X with pn := pn }
noncomputable abbrev Cx.inH (X : Cx) (e : Addr) : Cx := { X with A := X.A.mark (some (.ref e)), calm := false, xe := fun _ _ => False }
section
variable {X : Cx} {pins : List (Addr × Obj)} {σ : St} {H : Hp} {s : Shared} {e : Addr}
theorem Cx.Ok.pnw {X : Cx} (ok : X.Ok) (pn : List (Addr × Obj)) : (X.pnw pn).Ok :=
 ⟨ok.mod, ok.kind, ok.glob, ok.blt, ok.above, ok.inj, ok.has, ok.cab, ok.hd, ok.frames, ok.stk, ok.exf, ok.bs, ok.bsz, ok.noex, ok.exfs, ok.funs, ok.frf⟩
theorem Cx.Ok.unpn {X : Cx} {pn : List (Addr × Obj)} (ok : (X.pnw pn).Ok) : X.Ok :=
 ⟨ok.mod, ok.kind, ok.glob, ok.blt, ok.above, ok.inj, ok.has, ok.cab, ok.hd, ok.frames, ok.stk, ok.exf, ok.bs, ok.bsz, ok.noex, ok.exfs, ok.funs, ok.frf⟩
theorem Inv.toPn (I : Inv X pins σ H s) : Inv (X.pnw (X.pn ++ pins)) [] σ H s :=
 ⟨I.ok.pnw _, I.os, I.bare, I.base, I.loc, I.cell, I.free, I.freeC, fun p hp => I.pin p (by
  have z : p ∈ (X.pn ++ pins) ++ [] := hp
  rw [List.append_nil] at z
  exact z), I.hok, I.len⟩
theorem Inv.ofPn {pl : List (Addr × Obj)} (I : Inv (X.pnw (X.pn ++ pins)) pl σ H s) : Inv X pins σ H s :=
 ⟨I.ok.unpn, I.os, I.bare, I.base, I.loc, I.cell, I.free, I.freeC, fun p hp => I.pin p (List.mem_append_left _ hp), I.hok, I.len⟩
theorem SP.ofPn {pl : List (Addr × Obj)} {E : Value -> Shared -> Prop} {D : iR} {f : Flow} {s' : Shared} (h : SP ((X.pnw (X.pn ++ pins)).wish E) pl D f s') : SP X pins D f s' := by
 cases f with
 | next => obtain ⟨a, b, c, d⟩ := h; exact ⟨a, b, c.unwish.ofPn, d⟩
 | brk => obtain ⟨a, b, c, d⟩ := h; exact ⟨a, b, c.unwish.ofPn, d⟩
 | cont => obtain ⟨a, b, c, d⟩ := h; exact ⟨a, b, c.unwish.ofPn, d⟩
 | ret u => obtain ⟨v, a, b, c, d⟩ := h; exact ⟨v, a, b, c.unwish.ofPn, d⟩
theorem Cx.Ok.inH {X : Cx} (ok : X.Ok) (e : Addr) : (X.inH e).Ok :=
 ⟨ok.mod, ok.kind, ok.glob, ok.blt, ok.above, ok.inj, ok.has, ok.cab, (fun z => nomatch z), ok.frames, ok.stk, ok.exf, ok.bs, ok.bsz, ok.noex, ok.exfs, ok.funs, ok.frf⟩
theorem Inv.inH (I : Inv X pins σ H s) (e : Addr) : Inv (X.inH e) pins σ H s :=
 ⟨I.ok.inH e, I.os, I.bare, I.base, I.loc, I.cell, I.free, I.freeC, I.pin, I.hok, I.len⟩
theorem Inv.ofH (ok : X.Ok) (I : Inv (X.inH e) pins σ H s) : Inv X pins σ H s :=
 ⟨ok, I.os, I.bare, I.base, I.loc, I.cell, I.free, I.freeC, I.pin, I.hok, I.len⟩
theorem mE {i : Nat} {n : Str} {hpos : Pos} {Q : Unit -> Shared -> Prop} {M : Model} {A : Around} {E' : Value -> Shared -> Prop} (I : Inv X pins σ H s) (hN : X.N.Nodup) (hi : X.N[i]? = some n) (hk : X.env.kindOf n = some .local)
  (h : ∀ s', Inv X pins (σ.set i none) H s' -> Q () s') : wpAny M A (do bindName X.env n .none; unbindBehindTheSuite X.env n hpos) Q E' s := by
 obtain ⟨m, hn, hl⟩ := id I.loc
 have hcls : (X.env.scope.kind == .class || (X.env.scope.kind == .module && X.env.locals != X.env.globals)) = false := by rw [I.ok.kind]; rfl
 refine wpAny_nameGoes_keeps hk hn hcls fun h' v hn' hs => h _ ?_
 obtain ⟨oL, _, _, hoL, _⟩ := id hn
 have neL : ∀ b o, X.s₀.heap.get? b = some o -> b ≠ X.env.locals := fun b o e => Nat.ne_of_lt (Nat.lt_of_lt_of_le (Heap.lt_size e) I.ok.above)
 refine ⟨I.ok, I.os, I.bare, ⟨fun b o e n hb hx => (hs.2 b (neL b o e)).trans (I.base.keep b o e n hb hx), fun b o e n hb hx => ?_, I.base.free, fun b o e hx => ?_, I.base.tups, I.base.frzs, I.base.tbls⟩, ⟨_, hn', fun j y v' e1 e2 e3 => ?_⟩, fun y c e => ?_, I.free, I.freeC, fun p hp => ?_, fun b ob e => ?_, by simpa using I.len⟩
 ·obtain ⟨sl, e1⟩ := I.base.slot b o e n hb hx
  exact ⟨sl, (hs.2 b (neL b o e)).trans e1⟩
 ·obtain ⟨o', e1⟩ := I.base.there b o e hx
  exact ⟨o', (hs.2 b (neL b o e)).trans e1⟩
 ·by_cases hj : j = i
  ·subst hj
   have hiσ : j < σ.length := by rw [I.len]; exact (List.getElem?_eq_some_iff.mp hi).1
   rw [List.getElem?_set_self hiσ] at e2; cases e2
  ·rw [List.getElem?_set_ne (Ne.symm hj)] at e2
   obtain ⟨u', r', q⟩ := hl j y v' e1 e2 e3
   refine ⟨u', r', ?_⟩
   rcases q with ⟨k, e⟩ | ⟨k, c, e, z⟩
   ·refine .inl ⟨k, ?_⟩
    have : y ≠ n := fun e => hj (rM hN e1 (e ▸ hi))
    simp [this, e]
   ·exact .inr ⟨k, c, e, z.sameBut hs (I.cne y c e)⟩
 ·obtain ⟨w', z⟩ := I.cell y c e
  exact ⟨w', z.sameBut hs (I.cne y c e)⟩
 ·obtain ⟨e, n, ne, nf, d⟩ := I.pin p hp
  exact ⟨(hs.2 p.1 ne).trans e, n, ne, nf, d⟩
 ·refine (I.hok b ob e).stay (fun c w' hc q => (hs.2 c ?_).trans q) (fun _ q => q) (fun _ _ q => q) fun _ _ q => q
  rintro rfl
  rcases hc with hc | hc
  ·rw [<- hc, I.free] at e; cases e
  ·rw [I.free] at hc; cases hc
end
end L2
namespace L2
open PySem PySem.Spec PyProof.Rows
structure Blt (mg : Str -> Option Value) : Prop where
 b_len : mg "len" = none
 b_isinstance : mg "isinstance" = none
 b_all : mg "all" = none
 b_max : mg "max" = none
 b_min : mg "min" = none
 b_int : mg "int" = none
 b_str : mg "str" = none
 b_bool : mg "bool" = none
 b_tuple : mg "tuple" = none
 b_list : mg "list" = none
 b_range : mg "range" = none
 b_enumerate : mg "enumerate" = none
 b_ValueError : mg "ValueError" = none
structure DefAt (K : Frag) (mg : Str -> Option Value) (x : Str) (st : Stmt) (ps : List Str) : Prop where
 ex : ∃ f fd, Fun K x x st f fd /\ gN K fd ps [] /\ mg x = some (.ref f)
def Calls (P : Program) (w : World) (K : Frag) (mg : Str -> Option Value) (base : Heap) (CX : CXT) (k : Nat) (x : Str) (ps : List Str) (sp : Sp) : Prop :=
 ∃ f fd, FnOk P w K mg base CX k f fd ps sp /\ gN K fd ps [] /\ mg x = some (.ref f) /\ PySem.W.keepIn K (.ref f) = true
section
variable {P : Program} {w : World} {K : Frag} {mg : Str -> Option Value} {base : Heap} {x : Str} {st : Stmt} {N ps : List Str} {k : Nat} {sp : Sp}
theorem DefAt.okX (D : DefAt K mg x st ps) (S : FnScope N ps (aO st)) (len : ∀ vs H Q E, sp vs H Q E -> vs.length = ps.length)
  (hbody : ∀ (f : Addr) (cdv : Value) (A : Around) (outer : List Env) (s : Shared) (H : Hp) (vs : List V) (Q : VK) (E : XK), Room k (A.deeper (envOfC x (aO st) s.heap.objs.size f cdv)) -> sp vs H Q E ->
   ∃ t, PSs ((jM (CXe P w) P w K mg base N x (aO st) f cdv A outer s H E).fly E) (c8 st) t /\ t { nx := fun _ H' => Q .non H', rt := Q } (start N vs) H) : Calls P w K mg base (CXe P w) (k + 1) x ps sp := by
 obtain ⟨f, fd, F, b, m⟩ := D.ex
 exact ⟨f, fd, F.okX S len (hbody f), b, m, F.kp⟩
end
section
variable {X : Cx} {CX : CXT} {k : Nat} {x : Str} {ps : List Str} {sp : Sp} {E : XK} {p pos : Pos} {e : Expr} {es : List Expr} {t : TA}
theorem cF (C : Calls X.prog X.w X.K X.mg X.base CX k x ps sp) (hr : Room k X.A) (hg : Gl X x) (hx : lP CX X E) (ha : PA X (e :: es) t) (hdb : (x == ("__debug__" : Str)) = false := by decide)
  (he : starEach (e :: es) X.env = (false, eval e X.env) :: starEach es X.env := by rfl) (hpl : (backTo pos (starEach es X.env)).any (·.1) = false := by rfl) : PE X (.Call (.Name x p) (e :: es) [] pos) (qA sp [] E t) := by
 obtain ⟨f, fd, F, b, m, kp⟩ := C
 exact aHA F hr hg m kp b .nil hx ha hdb he hpl
end
def spI (C : Addr) (fs : List Str) : Sp := fun vs H Q _ => ∃ e xs, vs = .ref e :: xs /\ xs.length = fs.length /\ H e = some (ExN e C none) /\ ∀ d, H d = none -> d ≠ e -> Q .non (upd (upd H e (ExN e C (some d))) d (.xd (fs.zip xs)))
structure ErrAt (P : Program) (w : World) (K : Frag) (mg : Str -> Option Value) (base : Heap) (x : Str) (fs : List Str) (W C : Addr) : Prop where
 c : SX.ExcC K W C
 m : mg x = some (.ref C)
 na : ∀ f ∈ fs, PySem.W.findIn K (.ref C) f = some none
 i : ∃ fI fdI, FnOk P w K mg base CX0 1 fI fdI ("self" :: fs) (spI C fs) /\ PySem.W.findIn K (.ref C) "__init__" = some (some (.ref fI)) /\ PySem.W.typeIn K (.ref fI) = some (.type "function") /\ gN K fdI ("self" :: fs) []
theorem aE5 {H : Hp} {a b : Addr} {o u : HO} (h : a ≠ b) : upd (upd H a o) b u = upd (upd H b u) a o := by
 funext c
 unfold upd
 by_cases h1 : c = a
 · subst h1; rw [if_neg h, if_pos rfl, if_pos rfl]
 · rw [if_neg h1, if_neg h1]
theorem aC9 {X : Cx} {E : XK} {fs : List Str} {W C : Addr} {x : Str} {np cpos pos : Pos} {e0 : Expr} {rest : List Expr} {ta : TA} (hc : X.calm = true) (er : ErrAt X.prog X.w X.K X.mg X.base x fs W C) (hg : Gl X x) (hr : Room 2 X.A) (ha : PA (X.fly E) (e0 :: rest) ta)
  (hdb : (x == ("__debug__" : Str)) = false := by decide) (he : starEach (e0 :: rest) X.env = (false, eval e0 X.env) :: starEach rest X.env := by rfl) (hpl : (backTo cpos (starEach rest X.env)).any (·.1) = false := by rfl) :
  PS (X.fly E) (.Raise (some (.Call (.Name x np) (e0 :: rest) [] cpos)) none pos) (xH C (spI C fs) E ta) := by
 obtain ⟨fI, fdI, FI, hi, hf, hb⟩ := er.i
 exact rP hc er.c hg er.m FI hi hf hb hr ha hdb he hpl
theorem aBO {C : Addr} {fs : List Str} {vs : List V} {E : XK} {H1 : Hp} (hl : vs.length = fs.length) (hz : vs.length <= 1000)
  (h : ∀ e d, H1 e = none -> H1 d = none -> d ≠ e -> E (.ref C) (some e) (upd (upd H1 e (ExO e C (some d))) d (.xd (fs.zip vs)))) :
  vs.length <= 1000 /\ ∀ e, H1 e = none -> spI C fs (.ref e :: vs) (upd H1 e (ExN e C none)) (fun v H2 => v = .non /\ ∃ od, H2 e = some (ExN e C od) /\ E (.ref C) (some e) (upd H2 e (ExO e C od))) E0 := by
 refine ⟨hz, fun e he => ⟨e, vs, rfl, hl, aW, fun d hd hde => ⟨rfl, some d, ?_, ?_⟩⟩⟩
 ·rw [aG (Ne.symm hde), aW]
 ·have hd' : H1 d = none := by rw [aG hde] at hd; exact hd
  have := h e d he hd' hde
  rw [p8, aE5 (a := d) (b := e) hde, p8]
  exact this
theorem DatV.tup_of {K : Frag} {H : Hp} {v : V} {ds : List PyData} (h : DatV K H v (.tuple ds)) : ∃ a xs, v = .ref a /\ SqT K H a xs /\ DatVs K H xs ds := by
 cases h with
 | tup h1 h2 => exact ⟨_, _, rfl, h1, h2⟩
theorem DatV.lst_of {K : Frag} {H : Hp} {v : V} {ds : List PyData} (h : DatV K H v (.list ds)) : ∃ a xs, v = .ref a /\ SqL K H a xs /\ DatVs K H xs ds := by
 cases h with
 | lst h1 h2 => exact ⟨_, _, rfl, h1, h2⟩
theorem DatV.int_of {K : Frag} {H : Hp} {v : V} {i : Int} (h : DatV K H v (.int i)) : v = .int i := by cases h; rfl
theorem DatV.str_of {K : Frag} {H : Hp} {v : V} {i : Str} (h : DatV K H v (.str i)) : v = .str i := by cases h; rfl
theorem DatVs.cons_of {K : Frag} {H : Hp} {xs : List V} {d : PyData} {ds : List PyData} (h : DatVs K H xs (d :: ds)) : ∃ x t, xs = x :: t /\ DatV K H x d /\ DatVs K H t ds := by
 cases h with
 | cons h1 h2 => exact ⟨_, _, rfl, h1, h2⟩
theorem DatVs.nil_of {K : Frag} {H : Hp} {xs : List V} (h : DatVs K H xs []) : xs = [] := by cases h; rfl
theorem g9.nil_of {σ : St} (h : g9 [] σ) : σ = [] := List.length_eq_zero_iff.mp h.1
def SqS (K : Frag) (H : Hp) (a : Addr) (xs : List V) : Prop := SqL K H a xs \/ SqT K H a xs
theorem PI.or {X : Cx} {tg iter : Expr} {w1 w2 : TI} (h1 : PI X tg iter w1) (h2 : PI X tg iter w2) : PI X tg iter (fun σ H R => w1 σ H R \/ w2 σ H R) := fun pins s σ H R I h => h.elim (h1 pins s σ H R I) (h2 pins s σ H R I)
def aOA (K : Frag) (tl : TE) : TI := fun σ H R => tl σ H fun x H1 => ∃ a, x = .ref a /\ (((∃ xs, SqL K H1 a xs) /\ R (Itl K a) H1) \/ ((∃ xs, SqT K H1 a xs) /\ R (Itt K a) H1))
theorem aDA {X : Cx} {tg l : Expr} {tl : TE} (hl : PE X l tl) : PI X tg l (aOA X.K tl) := by
 intro pins s σ H R I h
 refine thn (hl pins s σ H _ I h) fun v s1 zz0 => ?_
 obtain ⟨x, H1, I1, r1, q1⟩ := zz0
 obtain ⟨a, e, q⟩ := q1
 subst e
 cases r1
 rcases q with ⟨⟨xs, hq⟩, q⟩ | ⟨⟨xs, hq⟩, q⟩
 ·obtain ⟨its, rv, p, hz⟩ := I1.list hq
  refine wpAny_pyIter_list p.isList ?_
  refine ⟨s1.heap.objs.size, [s1.heap.objs.size], _, _, H1, rfl, I1.kept (t' := s1.toks) fun b o e => Heap.get?_push_of_some _ e, aCT a _, ⟨_, Heap.get?_push_size _ rfl, rfl, rfl⟩, fun b hb => ?_, q⟩
  obtain rfl := List.mem_singleton.mp hb
  exact I1.fpOk (Nat.le_refl _) (I1.hok.fresh (Nat.le_refl _))
 ·obtain ⟨its, rv, p, hz⟩ := I1.tuple hq
  refine wpAny_pyIter_tuple (show s1.heap.IsTuple a its.toArray from p) ?_
  refine ⟨s1.heap.objs.size, [s1.heap.objs.size], _, _, H1, rfl, I1.kept (t' := s1.toks) fun b o e => Heap.get?_push_of_some _ e, aBC a _, ⟨_, Heap.get?_push_size _ rfl, rfl, rfl⟩, fun b hb => ?_, q⟩
  obtain rfl := List.mem_singleton.mp hb
  exact I1.fpOk (Nat.le_refl _) (I1.hok.fresh (Nat.le_refl _))
end L2
namespace L2
open PySem PySem.Spec PyProof.Rows
def aMX (i j : Int) : Prop := 0 < j /\ j < 2 ^ 64
theorem aE6 {X : Cx} : OpR X (binaryOp .FloorDiv) (rI aMX fun i j => .int (i / j)) := opI fun i j _ _ _ _ _ hc q => by
 have h1 : (0 : Int) < j := hc.1
 have h2 : j < 2 ^ 64 := hc.2
 have h3 : j.natAbs < 2 ^ 64 := by omega
 have h4 : j.natAbs.log2 < 64 := (Nat.log2_lt (by omega)).mpr h3
 exact floordiv_int (by omega) (by rw [Int.fdiv_eq_ediv_of_nonneg i (by omega)]; exact q) (.inl (PyProof.noPylong_of_log2 (by omega)))
theorem sY {X : Cx} {P : Program} {w : World} : lP (CXe P w) X E0 := by
 rintro pins σ H s ev s' I ⟨e, C, od, H', rfl, os, bare, un, hok, he, hv, q⟩
 exact q.elim
section
variable {X : Cx}
def aOB : V -> Option Int -> Option Int -> Hp -> VK -> Prop := fun x lo hi H Q => ∃ z, x = .str z /\ z.length <= sizeLine /\ Q (.str (Txt.slice z lo hi)) H
theorem z7 {v : Value} {o : Option Int} (h : IsPart v o) : ∃ l : Option (Int × Tok), partValue l = v /\ l.map (·.1) = o := by
 cases h with
 | none => exact ⟨none, rfl, rfl⟩
 | int i t => exact ⟨some (i, t), rfl, rfl⟩
theorem aKJ : SlR X aOB := by
 intro pins s σ H x v vl vu lo hi sl Q I rx hs pl pu h
 obtain ⟨z, rfl, hz, q⟩ := h
 obtain ⟨t, rfl⟩ := rx
 obtain ⟨l, rfl, el⟩ := z7 pl
 obtain ⟨u, rfl, eu⟩ := z7 pu
 obtain ⟨o, ho, hc, hd⟩ := hs
 refine ⟨"str", _, PyProof.Rows.slot_str_getitem.lookup, rfl, ?_⟩
 refine wpAny_getItem_str_slice (l := l) (u := u) (st := none) ⟨o, ho, hc, hd⟩ rfl ?_
 have le := Txt.slice_le z lo hi
 unfold Txt.slice at q le
 unfold sliceMade slicePicked
 rw [el, eu]
 simp only [beq_self_eq_true, Bool.true_and, Option.map_none, Option.getD_none] at q le ⊢
 by_cases hb : ((Builtin.Str.strSliceIndices lo hi 1 z.length).length == z.length) = true
 ·rw [if_pos hb] at q ⊢
  exact ⟨.str z, H, I, ⟨t, rfl⟩, q⟩
 ·rw [if_neg hb] at q le ⊢
  exact ⟨Nat.le_trans le hz, .str _, H, I.tok _, ⟨_, rfl⟩, q⟩
def aDB : V -> List V -> Hp -> VK -> Prop := fun x vs H Q => ∃ z y i rest, x = .str z /\ vs = [.str y] /\ Builtin.Str.occurrences z y 0 z.length 1 = i :: rest /\ Q (.int i) H
theorem xI : MtR X "str.index" aDB := by
 intro pins s σ H x vs v us Q I rx rv h
 obtain ⟨z, y, i, rest, rfl, rfl, ho, q⟩ := h
 obtain ⟨t, rfl⟩ := rx
 obtain ⟨u, rfl, tu, rfl⟩ := rv.one
 exact call_gives F.slot_str_index rfl F.entry_str_index (F.args_str_index_2 _ _) (gives_str_index z y t tu i rest ho) ⟨.int i, H, I.tok _, ⟨_, rfl⟩, q⟩
def Ity (z : Str) : It :=
 ⟨fun i _ => i < z.cps.size, fun i H x H' => ∃ p c, H p = none /\ x = .ref p /\ H' = upd H p (.tup [.int i, .str ⟨#[c]⟩]) /\ z.cps[i]? = some c, fun i _ => i = z.cps.size⟩
theorem aBP {P : Program} {w : World} {K : Frag} {es : List Expr} {k1} {tpos : Pos} (z : Str) (t : Tok) (T : String) (hT : ∀ A : Around, A.handled = none -> ∀ it, Draws P w A it [it] z.cps.size (fun i v => ∃ c u, z.cps[i]? = some c /\ v = Value.str { cps := #[c] } u) fun i h => h.IsStrIter it T z t i)
  (e it : Addr) (hei : e ≠ it) : Turn P w K (.Tuple es k1 tpos) (Ity z) [e, it] e (fun i h => (∃ old, IsEnum h e it i old) /\ h.IsStrIter it T z t i) where
 mem := by simp
 obj := fun i h st b hb => by
  obtain ⟨⟨old, s1⟩, o, e2, c, d⟩ := st
  rcases List.mem_cons.mp hb with z | z
  ·subst z
   exact ⟨_, s1, fun v z => by
    have z' : Data.fields _ = Data.cell v := z
    cases z'⟩
  ·obtain rfl : b = it := by simpa using z
   exact ⟨o, e2, fun v z => by rw [d] at z; cases z⟩
 keep := fun i h h' st k => by
  obtain ⟨⟨old, s1⟩, o, e2, c, d⟩ := st
  exact ⟨⟨old, k e (by simp) _ s1⟩, o, k it (by simp) o e2, c, d⟩
 item := by
  intro X hP hw hK hc i pins s σ H E I hf st hg
  subst hP hw hK
  obtain ⟨⟨old, s1⟩, s2⟩ := st
  obtain ⟨f0, f1, f2, f3, f4, f5⟩ := hf e (by simp)
  obtain ⟨g0, g1, g2, g3, g4, g5⟩ := hf it (by simp)
  refine wpAny_pyNext_enum_itemD (hT X.A.in1 (I.ok.hd hc) it) s1 s2 hg hei (by simpa using hei) fun u h' tk zz0 so si st hz' kp => ?_
  obtain ⟨c, tc, hcc, hu⟩ := zz0
  subst hu
  refine ⟨_, rfl, wpAny_letOwnedTupleGo_enum so fun h2 se sb => ?_⟩
  have ne1 : s.heap.objs.size ≠ e := Nat.ne_of_gt (Heap.lt_size s1)
  have hT2 : h2.get? s.heap.objs.size = some { cls := .type "tuple", data := .seq #[.int i tk, .str ⟨#[c]⟩ tc] } := (sb.2 _ ne1).trans st
  have fT : H s.heap.objs.size = none := I.hok.fresh (Nat.le_refl _)
  have kp2 : ∀ b o, b ≠ e -> b ≠ it -> s.heap.get? b = some o -> h2.get? b = some o := fun b o h1 h2' q => (sb.2 b h1).trans (kp b o h1 h2' q)
  have hok2 : HOk X.prog X.w H h2 := fun b uu q => by
   refine (I.hok b uu q).stay (fun c v hc q' => kp2 c v ?_ ?_ q') (fun _ q => q) (fun _ _ q => q) fun _ _ q => q
   ·rcases hc with z | z
    ·rw [z]; exact fun zz => by rw [zz, f0] at q; cases q
    ·exact fun zz => by rw [zz, f0] at z; cases z
   ·rcases hc with z | z
    ·rw [z]; exact fun zz => by rw [zz, g0] at q; cases q
    ·exact fun zz => by rw [zz, g0] at z; cases z
  have hokT : HOk X.prog X.w (upd H s.heap.objs.size (.tup [.int i, .str ⟨#[c]⟩])) h2 := HOk.track hok2 fT ⟨by show 2 <= sizeLine; decide, [.int i tk, .str ⟨#[c]⟩ tc], .cons ⟨_, rfl⟩ (.cons ⟨_, rfl⟩ .nil), ⟨_, hT2, rfl, _, rfl⟩⟩
  have ltT : ∀ b uu, H b = some uu -> b ≠ s.heap.objs.size := fun b uu q => bG q fT
  have I2 : Inv X pins σ (upd H s.heap.objs.size (.tup [.int i, .str ⟨#[c]⟩])) { s with heap := h2, gens := s.gens, drawn := s.drawn, toks := tk + 1 } := by
   refine I.step (ch := [e, it]) (fun b hb => ?_) (fun b o _ _ hc q _ => kp2 b o (fun z => hc (by simp [z])) (fun z => hc (by simp [z])) q) (fun b o _ _ hc q _ => ⟨o.slots, kp2 b o (fun z => hc (by simp [z])) (fun z => hc (by simp [z])) q⟩)
    (fun b o _ q n => by rw [aG (Nat.ne_of_lt (Heap.lt_size q))]; exact n) (fun b o hc q => ⟨o, kp2 b o (fun z => hc (by simp [z])) (fun z => hc (by simp [z])) q⟩) (fun b ys q => by rw [aG (ltT b _ q)]; exact q) (fun b o uu q => by rw [aG (ltT b _ q)]; exact q)
    (fun b ps q => by rw [aG (ltT b _ q)]; exact q) (fun m hm => ?_) hokT I.bare
   ·rcases List.mem_cons.mp hb with z | z
    ·subst z; exact ⟨f3, f1, f4, f5⟩
    ·obtain rfl : b = it := by simpa using z
     exact ⟨g3, g1, g4, g5⟩
   ·obtain ⟨o, es', ep, ho, r⟩ := hm
    exact ⟨o, es', ep, kp2 _ o (Ne.symm f1) (Ne.symm g1) ho, r⟩
  refine ⟨.ref s.heap.objs.size, _, I2, rfl, ⟨_, c, fT, rfl, rfl, hcc⟩, ⟨⟨_, by simpa using se⟩, ?_⟩, fun b hb => ?_⟩
  ·obtain ⟨o, q1, q2, q3⟩ := si
   exact ⟨o, (sb.2 it hei.symm).trans q1, q2, q3⟩
  ·rcases List.mem_cons.mp hb with z | z
   ·subst z; rw [aG (Ne.symm ne1)]; exact f0
   ·obtain rfl : b = it := by simpa using z
    obtain ⟨o, q, _⟩ := s2
    rw [aG (Nat.ne_of_lt (Heap.lt_size q))]; exact g0
 done := by
  intro X hP hw hK hc i pins s σ H E I hf st hg
  subst hP hw hK
  obtain ⟨⟨old, s1⟩, s2⟩ := st
  obtain ⟨g0, g1, g2, g3, g4, g5⟩ := hf it (by simp)
  have hg : i = z.cps.size := hg
  subst hg
  exact wpAny_pyNext_enum_endD (hT X.A.in1 (I.ok.hd hc) it) s1 s2 fun h' eb => ⟨rfl, I.turned (t' := s.toks) (fun b o hb q => eb b o hb q) g0 g1 g3 g4 g5⟩
 self := fun _ _ _ _ _ st h => wpAny_pyIter_enum st.1.choose_spec h
def aDC (ta : TA) : TI := fun σ H R => ta σ H fun vs H1 => ∃ z, vs = [.str z] /\ R (Ity z) H1
theorem aE7 {es : List Expr} {k1} {tpos : Pos} {a : Expr} {ta : TA} {p pos : Pos} (hg : Gl X "enumerate") (hm : X.mg "enumerate" = none) (ha : PA X [a] ta) (hs : starEach [a] X.env = [(false, eval a X.env)] := by rfl) :
  PI X (.Tuple es k1 tpos) (.Call (.Name "enumerate" p) [a] [] pos) (aDC ta) := by
 intro pins s σ H R I h
 refine Call_ (oY I hg hm PyProof.Rows.boot_enumerate (PyProof.Rows.callWith_type1 (thn (ha pos pins s σ H _ I h) fun us s1 zz0 => ?_) hs rfl))
 obtain ⟨vs, H1, I1, r1, q1⟩ := zz0
 obtain ⟨z, e, q⟩ := q1
 subst e
 obtain ⟨u, rfl, t, rfl⟩ := p9 r1
 have hT : ∀ A : Around, A.handled = none -> ∀ it, Draws X.prog X.w A it [it] z.cps.size (fun i v => ∃ c u, z.cps[i]? = some c /\ v = Value.str { cps := #[c] } u) fun i h => h.IsStrIter it (strIterType z) z t i := fun A hA it => by
  unfold strIterType
  split
  · exact Draws.strAscii hA it z t
  · exact Draws.strWide hA it z t
 refine call_enumerate_str fun h' se si hz' kp => ?_
 have I2 : Inv X pins σ H1 { s1 with heap := h' } := I1.kept (t' := s1.toks) kp
 refine wpAny_pyIter_enum se ?_
 refine ⟨s1.heap.objs.size + 1, [s1.heap.objs.size + 1, s1.heap.objs.size], _, _, H1, rfl, I2, aBP z t _ hT _ _ (Nat.ne_of_gt (Nat.lt_succ_self _)), ⟨⟨_, se⟩, si⟩, fun b hb => ?_, q⟩
 rcases List.mem_cons.mp hb with z | z
 ·subst z
  exact I1.fpOk (Nat.le_succ _) (I1.hok.fresh (Nat.le_succ _))
 ·obtain rfl : b = s1.heap.objs.size := by simpa using z
  exact I1.fpOk (Nat.le_refl _) (I1.hok.fresh (Nat.le_refl _))
end
theorem xJ {X : Cx} : iX X (.builtin "isinstance") (fun xs H Q => ∃ a ys c cv b, xs = [.ref a, c] /\ SqT X.K H a ys /\ aBN c = some cv /\ PySem.W.kitOne X.K (.type "tuple") cv = some b /\ Q (.bl b) H) := by
 intro pins s σ H xs us Q I r h
 obtain ⟨a, ys, c, cv, b, rfl, ha, hc, e, q⟩ := h
 obtain ⟨u, v, rfl, ru, rv⟩ := sQ r
 obtain rfl := uN hc rv
 cases (show u = Value.ref a from ru)
 obtain ⟨its, _, ⟨o, h1, h2, _⟩, _⟩ := I.tuple ha
 exact PySem.W.kia_one PySem.W.kitx_tuple I.kIn ⟨o, h1, h2⟩ e (fun z => nomatch z) fun tk => ⟨.bl b, H, I.tok _, rfl, q⟩
structure RoomH (k : Nat) (A : Around) : Prop where
 dp : A.depth + 3 * k + 5 < recursionLimit
 un : A.units + 16 * k + 200 < cLine
structure FnOkH (P : Program) (w : World) (K : Frag) (mg : Str -> Option Value) (base : Heap) (k : Nat) (f : Addr) (fd : FuncData) (ps : List Str) (sp : Sp) : Prop where
 len : ∀ vs H Q E, sp vs H Q E -> vs.length = ps.length
 run : ∀ (A : Around) (outer : List Env) (s : Shared) (H : Hp) (args : Args) (us : List Value) (vs : List V) (Q : VK), RoomH k A -> Env0 P w K mg base A outer s H -> BindsTo s fd args (ps.zip us) -> bN vs us -> sp vs H Q E0 ->
  codeAny (model P w) A (.call (.ref f) args) (CR CX0 outer P w H s Q E0) s
end L2
namespace Mc
open PySem L2 PyProof.Rows
inductive Tn where
 | n (i : Int) | w (x : Str)
noncomputable def Tn.v : Tn -> V
 | .n i => .int i
 | .w x => .str x
noncomputable def Tn.d : Tn -> PyData
 | .n i => .int i
 | .w x => .str x
structure Rw where
 l : Tn
 c : List (Int × Int)
 r : Tn
def cG (c : Int × Int) : PyData := .tuple [.int c.1, .int c.2]
def bU (r : Rw) : PyData := .tuple [r.l.d, .tuple (r.c.map cG), r.r.d]
def cM (rs : List Rw) : PyData := .tuple (rs.map bU)
inductive CellsAt (K : Frag) (H : Hp) : List V -> List (Int × Int) -> Prop
 | nil : CellsAt K H [] []
 | cons {q : Addr} {a b : Int} {xs : List V} {cs : List (Int × Int)} (h : SqS K H q [.int a, .int b]) (t : CellsAt K H xs cs) : CellsAt K H (.ref q :: xs) ((a, b) :: cs)
def aMY (K : Frag) (H : Hp) (v : V) (r : Rw) : Prop := ∃ p b cs, v = .ref p /\ SqS K H p [r.l.v, .ref b, r.r.v] /\ SqS K H b cs /\ CellsAt K H cs r.c
inductive RowsAt (K : Frag) (H : Hp) : List V -> List Rw -> Prop
 | nil : RowsAt K H [] []
 | cons {v : V} {r : Rw} {xs : List V} {rs : List Rw} (h : aMY K H v r) (t : RowsAt K H xs rs) : RowsAt K H (v :: xs) (r :: rs)
theorem aHN (i : Str) : (PyData.str i).eqv (.str i) = true := by rw [PyData.eqv.eq_6]; simp
noncomputable def Tn.ok : Tn -> Prop
 | .n _ => True
 | .w x => PyData.strOk x = true
def Rw.ok (r : Rw) : Prop := r.l.ok /\ r.r.ok
theorem z8 : ∀ {xs : List PyData}, (∀ x ∈ xs, x.canLay0 = true) -> PyData.canLayAll0 xs = true
 | [], _ => by rfl
 | x :: t, h => by
  show (x.canLay0 && PyData.canLayAll0 t) = true
  rw [h x (List.mem_cons_self ..), z8 fun y hy => h y (List.mem_cons_of_mem _ hy)]; rfl
theorem vU {n : Nat} : ∀ {xs : List PyData}, (∀ x ∈ xs, x.depth <= n) -> PyData.depthAll xs <= n
 | [], _ => Nat.zero_le _
 | x :: t, h => by
  show max x.depth (PyData.depthAll t) <= n
  exact Nat.max_le.mpr ⟨h x (List.mem_cons_self ..), vU fun y hy => h y (List.mem_cons_of_mem _ hy)⟩
def Sh (n : Nat) (d : PyData) : Prop := d.canLay0 = true /\ d.depth <= n
theorem aDD {n : Nat} {xs : List PyData} (h : ∀ x ∈ xs, Sh n x) : Sh (n + 1) (.tuple xs) := ⟨z8 fun x hx => (h x hx).1, by
 have := vU fun x hx => (h x hx).2
 show PyData.depthAll xs + 1 <= n + 1
 omega⟩
theorem aKK (n : Nat) (i : Int) : Sh n (.int i) := ⟨rfl, Nat.zero_le _⟩
theorem aKL (n : Nat) {x : Str} (h : PyData.strOk x = true) : Sh n (.str x) := ⟨h, Nat.zero_le _⟩
theorem aGH (n : Nat) {t : Tn} (h : t.ok) : Sh n t.d := by
 cases t with
 | n i => exact aKK n i
 | w x => exact aKL n h
section
variable {K : Frag} {H : Hp} {p q : Addr} {xs ys : List V} {o : HO}
inductive NoL : PyData -> Prop where
 | int (i : Int) : NoL (.int i)
 | str (i : Str) : NoL (.str i)
 | tup {ds : List PyData} (h : ∀ d ∈ ds, NoL d) : NoL (.tuple ds)
end
section
variable {K : Frag} {H : Hp}
theorem cells_of : ∀ {xs : List V} {cs : List (Int × Int)}, DatVs K H xs (cs.map cG) -> CellsAt K H xs cs
 | xs, [], h => by obtain rfl := h.nil_of; exact .nil
 | xs, c :: cs, h => by
  obtain ⟨x, t, rfl, h1, h2⟩ := h.cons_of
  obtain ⟨a, ys, rfl, h3, h4⟩ := h1.tup_of
  obtain ⟨y0, t0, rfl, h5, h6⟩ := h4.cons_of
  obtain ⟨y1, t1, rfl, h7, h8⟩ := h6.cons_of
  obtain rfl := h8.nil_of
  obtain rfl := h5.int_of
  obtain rfl := h7.int_of
  exact .cons (.inr h3) (cells_of h2)
end
section
variable {K : Frag} {h : Heap} {mg : Str -> Option Value}
theorem b9 {x : Str} {st : Stmt} {ps : List Str} {f : Addr} {oc : Value} {od an : Option Addr} {osl : Array (Option Value)} {kV doc pm cdv ct : Value} (X : K.In h) (G : h.Ns mainGlobals mg)
  (a : PySem.W.nsIn K mainGlobals x = some (some (.ref f))) (l : K.lookup f = some ⟨oc, od, .func (PySem.W.fnOf x x (fU st) (c8 st) (aO st) .none kV doc pm an cdv ct), osl⟩)
  (c : PySem.W.codeIn K cdv x = true) (k : PySem.W.keepIn K (.ref f) = true)
  (b : ∀ (kV doc pm : Value) (an : Option Addr) (cdv ct : Value) (us : List Value), us.length = ps.length -> bindArgs (PySem.W.fnOf x x (fU st) (c8 st) (aO st) .none kV doc pm an cdv ct) ⟨us, []⟩ = pure (ps.zip us)) : DefAt K mg x st ps := by
 have F := w8 (st := st) l c k
 exact ⟨f, _, F, F.binds b, PySem.W.mg_of X G a⟩
end
section
variable {K : Frag} {h : Heap} {mg : Str -> Option Value}
theorem z9 {W C N : Addr} {bs sub : List Value} {nm q : Str} {ab : Bool} {sn : List Str} {col : Option Bool} {dd : Option Addr} {k0 k1 k2 k3 k5 : Option Value} (l : K.lookup C = some (excClassObj nm q C N bs (.ref W :: SX.gG) true sn sub ab col dd k0 k1 k2 k3 k5 "ValueError.__new__"))
 (sa : PySem.W.findIn K (.ref C) "__setattr__" = some (some (.builtin "object.__setattr__"))) (ga : PySem.W.findIn K (.ref C) "__getattribute__" = some (some (.builtin "BaseException.__getattribute__"))) (gh : PySem.W.findIn K (.ref C) "__getattr__" = some none) (cl : PySem.W.findIn K (.ref C) "__class__" = some (some (.builtin "object.__class__")))
 (clg : PySem.W.specialIn K (.builtin "object.__class__") "__get__" = some (some (.builtin "getset_descriptor.__get__"))) (clt : PySem.W.takesIn K (.builtin "object.__class__") = some true) (kp : PySem.W.keepIn K (.ref C) = true) : SX.ExcC K W C := ⟨⟨_, _, _, _, _, _, _, _, _, _, _, _, _, _, l⟩, sa, ga, gh, cl, clg, clt, kp⟩
end
end Mc
namespace Mc
open PySem L2 PyProof.Rows
noncomputable def bV (n c : Nat) : Bool := decide (97 <= c /\ c < 97 + n)
noncomputable def iI (n : Nat) : Nat -> List Nat -> Option Nat
 | _, [] => none
 | i, c :: t => if bV n c = true then iI n (i + 1) t else some i
theorem k8 (n i c : Nat) (t : List Nat) : iI n i (c :: t) = if bV n c = true then iI n (i + 1) t else some i := rfl
theorem occ_one (x : Str) (c : Nat) : (Builtin.Str.occurrences x ⟨#[c]⟩ 0 x.length 1 = [] /\ ∀ i : Nat, x.cps.toList[i]? ≠ some c) \/ ∃ (i : Nat) (r : List Nat), Builtin.Str.occurrences x ⟨#[c]⟩ 0 x.length 1 = i :: r /\ x.cps.toList[i]? = some c /\ ∀ k : Nat, k < i -> x.cps.toList[k]? ≠ some c := by
 rcases StrLaws.occ_head x ⟨#[c]⟩ 1 (Nat.le_refl _) with ⟨h1, h2⟩ | ⟨i, r, h1, h2, h3⟩
 · exact .inl ⟨h1, fun i e => h2 i ((StrLaws.subAt_one x c i).mpr e)⟩
 · exact .inr ⟨i, r, h1, (StrLaws.subAt_one x c i).mp h2, fun k hk e => h3 k hk ((StrLaws.subAt_one x c k).mpr e)⟩
theorem aAA {n : Nat} (h1 : 1 <= n) (h2 : n <= 3) : (Txt.slice "abc" none (some (n : Int))).cps.toList = [97, 98, 99].take n := by
 obtain rfl | rfl | rfl : n = 1 \/ n = 2 \/ n = 3 := by omega
 all_goals decide +kernel
theorem o5 {n c : Nat} (h1 : 1 <= n) (h2 : n <= 3) : bV n c = true ↔ ∃ i : Nat, (([97, 98, 99] : List Nat).take n)[i]? = some c := by
 unfold bV
 rw [decide_eq_true_iff]
 constructor
 ·intro h
  refine ⟨c - 97, ?_⟩
  obtain rfl | rfl | rfl : n = 1 \/ n = 2 \/ n = 3 := by omega
  ·obtain rfl : c = 97 := by omega
   rfl
  ·obtain rfl | rfl : c = 97 \/ c = 98 := by omega
   all_goals rfl
  ·obtain rfl | rfl | rfl : c = 97 \/ c = 98 \/ c = 99 := by omega
   all_goals rfl
 ·rintro ⟨i, e⟩
  obtain ⟨hi, he⟩ := List.getElem?_eq_some_iff.mp e
  have hm := List.getElem_mem hi
  rw [he] at hm
  obtain rfl | rfl | rfl : n = 1 \/ n = 2 \/ n = 3 := by omega
  all_goals
   simp at hm
   omega
theorem aE8 {n c : Nat} (h1 : 1 <= n) (h2 : n <= 3) : (!(!(Builtin.Str.occurrences (Txt.slice "abc" none (some (n : Int))) ⟨#[c]⟩ 0 (Txt.slice "abc" none (some (n : Int))).length 1).isEmpty)) = !bV n c := by
 have e := aAA h1 h2
 rcases occ_one (Txt.slice "abc" none (some (n : Int))) c with ⟨a, b⟩ | ⟨i, r, a, b, _⟩
 ·rw [a]
  have : bV n c = false := Bool.eq_false_iff.mpr fun z => by
   obtain ⟨i, hi⟩ := (o5 h1 h2).mp z
   rw [e] at b
   exact b i hi
  rw [this]; rfl
 ·rw [a]
  rw [e] at b
  rw [(o5 h1 h2).mpr ⟨i, b⟩]; rfl
theorem aDE {c : Nat} (h : bV 3 c = true) : ∃ r, Builtin.Str.occurrences "abc" ⟨#[c]⟩ 0 ("abc" : Str).length 1 = (c - 97) :: r := by
 have h := of_decide_eq_true h
 refine ⟨[], ?_⟩
 obtain rfl | rfl | rfl : c = 97 \/ c = 98 \/ c = 99 := by omega
 all_goals decide +kernel
end Mc
namespace L2
open PySem PySem.Spec PyProof.Rows
theorem aGI {P : Program} {w : World} {k : Key} {u : Value} (r : bC (kV k) u) : (dQ P w).is k u = true := by
 cases k with
 | inl i => obtain ⟨t, e⟩ := (show ∃ t, u = Value.int i t from r); subst e; exact zP P w i t
 | inr x => obtain ⟨t, e⟩ := (show ∃ t, u = Value.str x t from r); subst e; exact zQ P w x t
section
variable {X : Cx} {pins : List (Addr × Obj)} {σ : St} {H : Hp} {s : Shared} {a : Addr} {y v : V} {u r : Value} {o : Option V} {A : Around} {E : Value -> Shared -> Prop}
theorem Inv.big (I : Inv X pins σ H s) : sysModules < s.heap.objs.size := by
 have h : mainGlobals < s.heap.objs.size := (I.mod.glob.keeps I.bk).lt
 exact Nat.lt_trans (by decide) h
theorem qB {h' : Heap} {t' : Nat} {ob : HO} (I : Inv X pins σ H s) (mu : Mut (H a)) (hs : Heap.SameBut a s.heap h') (he : ∃ q, h'.get? a = some q) (new : cE X.prog X.w (upd H a ob) h' a ob) :
  Inv X pins σ (upd H a ob) { s with heap := h', toks := t' } :=
 I.write (x := a) (e := a) mu (.inl rfl) (fun b q hb z => (hs.2 b hb).trans z) he new
end
def aKM (i : Expr) : Prop := ∀ ov iv, subscripted i false ov iv = operate [ov, iv] (getItem ov iv)
theorem aHO {prog : Program} {w : World} {A : Around} {E : Value -> Shared -> Prop} {s : Shared} {env : Env} {value slice : Expr} {pos : Pos} {T id : String} {Q : Value -> Shared -> Prop}
  (hl : typeLookup (.type T) "__getitem__" = pure (some (.builtin id))) (hs : aKM slice)
  (h : wpAny (model prog w) A (eval value env) (fun o s₁ => wpAny (model prog w) A (eval slice env) (fun i s₂ => s₂.TypeIs o T /\ wpAny (model prog w) A (getItem o i) Q E s₂) E s₁) E s) :
  wpAny (model prog w) A (eval (.Subscript value slice pos) env) Q E s := by
 refine Subscript_ (wpAny_mono h (fun o s₁ h₁ => wpAny_mono h₁ (fun i s₂ h₂ => ?_) fun _ _ x => x) fun _ _ x => x)
 obtain ⟨hT, h₂⟩ := h₂
 unfold subscriptTail
 refine wpAny_bind ?_
 rw [getitemInPython_of_ne hT.not_modules]
 refine wpAny_bind (wpAny_specialOf hT hl ?_)
 have fin : wpAny (model prog w) A (subscripted slice false o i) (fun r s₃ => wpAny (model prog w) A (letTemporaryGo value o r >>= fun _ => pure r) Q E s₃) E s₂ := by
  rw [hs o i]
  exact wpAny_operating (wpAny_mono h₂ (fun r s₃ h₃ => wpAny_bind (wpAny_letTemporaryGo (wpAny_pure h₃))) fun _ _ x => x)
 first
  | exact wpAny_pure (wpAny_bind fin)
  | exact wpAny_bind (wpAny_pure (wpAny_bind fin))
  | exact wpAny_bind fin
structure M1 (X : Cx) (o : Expr) (m : Str) (apos : Pos) (e : Expr) (cpos : Pos) : Prop where
 base : attributeBase o m X.env (eval o X.env) = eval o X.env
 few : ((backTo cpos (starEach [e] X.env)).all (fun x => !x.1) && (backToKw cpos (keywordEach [] X.env)).all (fun x => x.1.isSome)
  && decide (([e] : List Expr).length + ([] : List Keyword).length + (if ([] : List Keyword).isEmpty then 0 else 1) < 30)) = true
 line : (apos.endLine == cpos.line) = true
 trees : backTo cpos (starEach [e] X.env) = [(false, eval e X.env)]
structure M2 (X : Cx) (o : Expr) (m : Str) (apos : Pos) (e f : Expr) (cpos : Pos) : Prop where
 base : attributeBase o m X.env (eval o X.env) = eval o X.env
 few : ((backTo cpos (starEach [e, f] X.env)).all (fun x => !x.1) && (backToKw cpos (keywordEach [] X.env)).all (fun x => x.1.isSome)
  && decide (([e, f] : List Expr).length + ([] : List Keyword).length + (if ([] : List Keyword).isEmpty then 0 else 1) < 30)) = true
 line : (apos.endLine == cpos.line) = true
 trees : backTo cpos (starEach [e, f] X.env) = [(false, eval e X.env), (false, eval f X.env)]
end L2
namespace L2
open PySem PySem.Spec PyProof.Rows
end L2
namespace L2
open PySem PySem.Spec PyProof.Rows
end L2
namespace Mc
open PySem L2 PyProof.Rows
def Tn.good (n : Int) : Tn -> Prop
 | .n i => 0 <= i /\ i < n
 | .w x => x = "by" \/ x = "out"
def lR (n : Int) (c : Int × Int) : Prop := 0 <= c.1 /\ c.1 < n /\ (c.2 = 1 \/ c.2 = -1)
def Rw.good (n : Int) (r : Rw) : Prop := r.l.good n /\ r.r.good n /\ ∀ c ∈ r.c, lR n c
theorem Tn.good.ok {n : Int} {t : Tn} (h : t.good n) : t.ok := by
 cases t with
 | n i => trivial
 | w x =>
  rcases h with rfl | rfl
  · exact (show PyData.strOk _ = true by decide +kernel)
  · exact (show PyData.strOk _ = true by decide +kernel)
theorem Rw.good.ok {n : Int} {r : Rw} (h : r.good n) : r.ok := ⟨h.1.ok, h.2.1.ok⟩
structure Mach (rs : List Rw) (sg : Nat) : Prop where
 len : 1 <= rs.length
 len2 : rs.length <= 1000
 sg1 : 1 <= sg
 sg3 : sg <= 3
 row : ∀ r ∈ rs, r.good rs.length /\ r.c.length = sg
def a8 (sg : Nat) (z : List Nat) : Prop := z.length <= 1000 /\ ∀ c ∈ z, bV sg c = true
theorem xK {sg : Nat} : ∀ {z : List Nat} {i : Nat}, (∀ c ∈ z, bV sg c = true) -> iI sg i z = none
 | [], _, _ => rfl
 | c :: t, i, h => by
  rw [k8, if_pos (h c (by simp))]
  exact xK fun x hx => h x (by simp [hx])
noncomputable def aV (rs : List Rw) (q : Int) : Rw := rs.getD q.toNat ⟨.n 0, [], .n 0⟩
noncomputable def bP (rs : List Rw) (z : List Nat) (st : Int × Int) : Tn × Int :=
 if st.1 = 0 then ((aV rs st.2).l, 1) else if st.1 = (z.length : Int) + 1 then ((aV rs st.2).r, -1) else
  (.n ((aV rs st.2).c.getD (z.getD (st.1.toNat - 1) 97 - 97) (0, 0)).1, ((aV rs st.2).c.getD (z.getD (st.1.toNat - 1) 97 - 97) (0, 0)).2)
def eQ (rs : List Rw) (z : List Nat) (st : Int × Int) : Option (Int × Int) :=
 match (bP rs z st).1 with
 | .w _ => none
 | .n q => some (st.1 + (bP rs z st).2, q)
def g6 (rs : List Rw) (z : List Nat) (st : Int × Int) : Prop := 0 <= st.1 /\ st.1 <= (z.length : Int) + 1 /\ 0 <= st.2 /\ st.2 < (rs.length : Int)
theorem c9 {rs : List Rw} {q : Int} (h0 : 0 <= q) (h1 : q < rs.length) : rs[q.toNat]? = some (aV rs q) := by
 have h : q.toNat < rs.length := by omega
 unfold aV
 rw [List.getD_eq_getElem?_getD, List.getElem?_eq_getElem h]; rfl
theorem aAB {rs : List Rw} {sg : Nat} {z : List Nat} {st : Int × Int} (S : a8 sg z) (V : g6 rs z st) (h0 : st.1 ≠ 0) (h1 : st.1 ≠ (z.length : Int) + 1) : ∃ c, z[st.1.toNat - 1]? = some c /\ bV sg c = true /\ z.getD (st.1.toNat - 1) 97 = c := by
 obtain ⟨a, b, _, _⟩ := V
 have hl : st.1.toNat - 1 < z.length := by omega
 refine ⟨z[st.1.toNat - 1], by simp [hl], S.2 _ (List.getElem_mem hl), by rw [List.getD_eq_getElem?_getD, List.getElem?_eq_getElem hl]; rfl⟩
theorem xL {rs : List Rw} {sg : Nat} {z : List Nat} {st : Int × Int} (M : Mach rs sg) (S : a8 sg z) (V : g6 rs z st) (h0 : st.1 ≠ 0) (h1 : st.1 ≠ (z.length : Int) + 1) :
  ∃ c, (aV rs st.2).c[z.getD (st.1.toNat - 1) 97 - 97]? = some c /\ (aV rs st.2).c.getD (z.getD (st.1.toNat - 1) 97 - 97) (0, 0) = c /\ lR rs.length c := by
 obtain ⟨c, _, hs, e⟩ := aAB S V h0 h1
 rw [e]
 have hs := of_decide_eq_true hs
 have hr := M.row _ (List.mem_of_getElem? (c9 V.2.2.1 V.2.2.2))
 have hl : c - 97 < (aV rs st.2).c.length := by rw [hr.2]; omega
 refine ⟨(aV rs st.2).c[c - 97], by simp [hl], by rw [List.getD_eq_getElem?_getD, List.getElem?_eq_getElem hl]; rfl, hr.1.2.2 _ (List.getElem_mem hl)⟩
theorem n4 {rs : List Rw} {sg : Nat} {z : List Nat} {st st' : Int × Int} (M : Mach rs sg) (S : a8 sg z) (V : g6 rs z st) (h : eQ rs z st = some st') : g6 rs z st' := by
 have hr := M.row _ (List.mem_of_getElem? (c9 V.2.2.1 V.2.2.2))
 obtain ⟨a, b, c, d⟩ := id V
 unfold eQ bP at h
 by_cases h0 : st.1 = 0
 ·simp only [if_pos h0] at h
  have g := hr.1.1
  cases e : (aV rs st.2).l with
  | w x => rw [e] at h; cases h
  | n q =>
   rw [e] at h g
   cases h
   exact ⟨by show 0 <= st.1 + 1; omega, by show st.1 + 1 <= _; omega, g.1, g.2⟩
 ·by_cases h1 : st.1 = (z.length : Int) + 1
  ·simp only [if_neg h0, if_pos h1] at h
   have g := hr.1.2.1
   cases e : (aV rs st.2).r with
   | w x => rw [e] at h; cases h
   | n q =>
    rw [e] at h g
    cases h
    exact ⟨by show 0 <= st.1 + -1; omega, by show st.1 + -1 <= _; omega, g.1, g.2⟩
  ·obtain ⟨cc, _, e, g⟩ := xL M S V h0 h1
   simp only [if_neg h0, if_neg h1] at h
   rw [e] at h
   cases h
   obtain ⟨g1, g2, g3⟩ := g
   refine ⟨?_, ?_, g1, g2⟩
   ·show 0 <= st.1 + cc.2; rcases g3 with g3 | g3 <;> omega
   ·show st.1 + cc.2 <= _; rcases g3 with g3 | g3 <;> omega
theorem o6 : ∀ (N : Nat) (l : List Nat), l.Nodup -> (∀ x ∈ l, x < N) -> l.length <= N
 | 0, l, _, h => by
  cases l with
  | nil => exact Nat.le_refl _
  | cons a t => exact absurd (h a (by simp)) (by omega)
 | N + 1, l, hn, h => by
  have ih := o6 N (l.erase N) (hn.erase N) (fun x hx => by
   have := (hn.mem_erase_iff).mp hx
   have h2 := h x this.2
   omega)
  have := List.length_erase (a := N) (l := l)
  split at this <;> omega
theorem aBQ {rs : List Rw} {z : List Nat} {l : List (Int × Int)} (hn : l.Nodup) (hv : ∀ st ∈ l, g6 rs z st) : l.length <= (z.length + 2) * rs.length := by
 have h := o6 ((z.length + 2) * rs.length) (l.map fun st => st.1.toNat * rs.length + st.2.toNat) ?_ ?_
 ·rw [List.length_map] at h; exact h
 ·unfold List.Nodup
  rw [List.pairwise_map]
  refine List.Pairwise.imp_of_mem (fun {a b} ha hb hab e => hab ?_) hn
  obtain ⟨a1, a2, a3, a4⟩ := hv a ha
  obtain ⟨b1, b2, b3, b4⟩ := hv b hb
  have hm : 0 < rs.length := by omega
  have e1 : (a.1.toNat * rs.length + a.2.toNat) / rs.length = (b.1.toNat * rs.length + b.2.toNat) / rs.length := by rw [e]
  have e2 : (a.1.toNat * rs.length + a.2.toNat) % rs.length = (b.1.toNat * rs.length + b.2.toNat) % rs.length := by rw [e]
  have ha2 : a.2.toNat < rs.length := by omega
  have hb2 : b.2.toNat < rs.length := by omega
  rw [Nat.mul_comm, Nat.mul_add_div hm, Nat.mul_comm b.1.toNat, Nat.mul_add_div hm, Nat.div_eq_of_lt ha2, Nat.div_eq_of_lt hb2] at e1
  rw [Nat.mul_comm, Nat.mul_add_mod, Nat.mul_comm b.1.toNat, Nat.mul_add_mod, Nat.mod_eq_of_lt ha2, Nat.mod_eq_of_lt hb2] at e2
  exact Prod.ext (by omega) (by omega)
 ·intro x hx
  obtain ⟨st, hst, rfl⟩ := List.mem_map.mp hx
  obtain ⟨a1, a2, a3, a4⟩ := hv st hst
  have h1 : st.1.toNat + 1 <= z.length + 2 := by omega
  have h2 : st.2.toNat < rs.length := by omega
  calc st.1.toNat * rs.length + st.2.toNat < st.1.toNat * rs.length + rs.length := by omega
   _ = (st.1.toNat + 1) * rs.length := by rw [Nat.add_mul]; omega
   _ <= (z.length + 2) * rs.length := Nat.mul_le_mul_right _ h1
noncomputable def qD (rs : List Rw) (z : List Nat) : Nat -> List (Int × Int) -> Int × Int -> List (Int × Int)
 | 0, ps, st => ps ++ [st]
 | k + 1, ps, st => if st ∈ ps then ps ++ [st] else match eQ rs z st with
  | none => ps ++ [st]
  | some st' => qD rs z k (ps ++ [st]) st'
def qE (rs : List Rw) (z : List Nat) : Nat := (z.length + 2) * rs.length
def lA (rs : List Rw) (z : List Nat) : List (Int × Int) := qD rs z (qE rs z) [] (0, 0)
structure Way (rs : List Rw) (z : List Nat) (ps : List (Int × Int)) (st : Int × Int) (k : Nat) : Prop where
 nd : ps.Nodup
 val : ∀ s ∈ ps ++ [st], g6 rs z s
 num : ps.length + k = qE rs z
 res : qD rs z k ps st = lA rs z
theorem Way.start {rs : List Rw} {sg : Nat} {z : List Nat} (M : Mach rs sg) : Way rs z [] (0, 0) (qE rs z) where
 nd := List.nodup_nil
 val := fun s hs => by
  obtain rfl : s = (0, 0) := by simpa using hs
  have := M.len
  exact ⟨Int.le_refl _, by show (0 : Int) <= _; omega, Int.le_refl _, by show (0 : Int) < _; omega⟩
 num := by simp
 res := rfl
theorem Way.here {rs : List Rw} {z : List Nat} {ps : List (Int × Int)} {st : Int × Int} {k : Nat} (W : Way rs z ps st k) : g6 rs z st := W.val st (by simp)
theorem Way.stop {rs : List Rw} {z : List Nat} {ps : List (Int × Int)} {st : Int × Int} {k : Nat} (W : Way rs z ps st k) (h : st ∈ ps) : ps ++ [st] = lA rs z := by
 rw [<- W.res]
 cases k with
 | zero => rfl
 | succ k => unfold qD; rw [if_pos h]
theorem Way.more {rs : List Rw} {z : List Nat} {ps : List (Int × Int)} {st : Int × Int} {k : Nat} (W : Way rs z ps st k) (h : st ∉ ps) : ∃ j, k = j + 1 := by
 have hn : (ps ++ [st]).Nodup := by
  rw [List.nodup_append]
  exact ⟨W.nd, by simp, fun a ha b hb e => by rw [List.mem_singleton.mp hb] at e; exact h (e ▸ ha)⟩
 have := aBQ hn W.val
 rw [List.length_append] at this
 have hk := W.num
 unfold qE at hk
 simp only [List.length_cons, List.length_nil] at this
 exact ⟨k - 1, by omega⟩
theorem Way.ends {rs : List Rw} {z : List Nat} {ps : List (Int × Int)} {st : Int × Int} {k : Nat} (W : Way rs z ps st k) (h : st ∉ ps) (e : eQ rs z st = none) : ps ++ [st] = lA rs z := by
 obtain ⟨j, rfl⟩ := W.more h
 rw [<- W.res]
 unfold qD
 rw [if_neg h, e]
theorem Way.next {rs : List Rw} {sg : Nat} {z : List Nat} {ps : List (Int × Int)} {st st' : Int × Int} {k : Nat} (M : Mach rs sg) (S : a8 sg z) (W : Way rs z ps st (k + 1)) (h : st ∉ ps) (e : eQ rs z st = some st') : Way rs z (ps ++ [st]) st' k where
 nd := by
  rw [List.nodup_append]
  exact ⟨W.nd, by simp, fun a ha b hb e => by rw [List.mem_singleton.mp hb] at e; exact h (e ▸ ha)⟩
 val := fun s hs => by
  rcases List.mem_append.mp hs with q | q
  · exact W.val s q
  · rw [List.mem_singleton.mp q]; exact n4 M S W.here e
 num := by rw [List.length_append]; have := W.num; simp; omega
 res := by
  rw [<- W.res]
  conv => rhs; unfold qD
  rw [if_neg h, e]
end Mc
namespace L2
open PySem PySem.Spec PyProof.Rows
theorem nG : ∀ {ys : List Str} {us : List Value}, bN (ys.map V.str) us -> StrsAre us ys
 | [], _, .nil => .nil
 | y :: ys, _, .cons r t => by obtain ⟨t', rfl⟩ := r; exact .cons y t' (nG t)
def aGJ (K : Frag) : V -> List V -> Hp -> VK -> Prop := fun x vs H Q => ∃ (sep : Str) (a : Addr) (ys : List Str), x = .str sep /\ vs = [.ref a] /\ SqL K H a (ys.map V.str) /\ (ys.map fun y => y.length).sum + ys.length * sep.length <= 16777216 /\ Q (.str (Txt.join sep ys)) H
theorem aHP {X : Cx} : MtR X "str.join" (aGJ X.K) := by
 intro pins s σ H x vs v us Q I rx rv h
 obtain ⟨sep, a, ys, rfl, rfl, ha, hz, q⟩ := h
 obtain ⟨t, rfl⟩ := rx
 obtain ⟨u, rfl, ru⟩ := rv.one
 cases (show u = Value.ref a from ru)
 obtain ⟨its, r, pl, _⟩ := I.list ha
 exact join_list (items := its.toArray) pl.isList (by simpa using nG r) hz fun t' k => ⟨.str _, H, I.tok _, ⟨_, rfl⟩, q⟩
end L2
namespace Mc
open PySem L2 PyProof.Rows
noncomputable def one (c : Nat) : Str := ⟨#[c]⟩
theorem aDF (cs : List Nat) : ∀ (a : Array Nat), (List.foldl (fun acc p => acc ++ ("" : Str).cps ++ p.cps) a (cs.map one)).toList = a.toList ++ cs := by
 induction cs with
 | nil => intro a; simp
 | cons c t ih =>
  intro a
  rw [List.map_cons, List.foldl_cons, ih]
  have : ("" : Str).cps = #[] := rfl
  rw [this]
  simp [one]
theorem aE9 (cs : List Nat) : (Txt.join "" (cs.map one)).cps.toList = cs := by
 unfold Txt.join Builtin.Str.glued
 cases cs with
 | nil => rfl
 | cons c t =>
  show (List.foldl _ (one c).cps (t.map one)).toList = _
  rw [aDF]; rfl
theorem aHQ (cs : List Nat) : ((cs.map one).map fun y => y.length).sum = cs.length := by
 induction cs with
 | nil => rfl
 | cons c t ih => rw [List.map_cons, List.map_cons, List.sum_cons, ih, List.length_cons]; show 1 + _ = _; omega
theorem aAC {x y : Str} (h : x.cps.toList = y.cps.toList) : x = y := by
 cases x; cases y
 simp only [Str.mk.injEq]
 exact Array.toList_inj.mp h
theorem aHR (cs : List Nat) : Txt.join "" (cs.map one) = ⟨cs.toArray⟩ := aAC (by rw [aE9])
theorem aHS {k : Int} {sg : Nat} (h1 : 1 <= sg) (h3 : sg <= 3) : ∃ c, atI ("abc" : Str).cps.toList (k % (sg : Int)) = some c /\ bV sg c = true := by
 have h0 := Int.emod_nonneg k (show (sg : Int) ≠ 0 by omega)
 have h2 := Int.emod_lt_of_pos k (show (0 : Int) < sg by omega)
 obtain ⟨j, hj⟩ : ∃ j : Nat, k % (sg : Int) = j := ⟨(k % (sg : Int)).toNat, by omega⟩
 rw [hj] at h0 h2 ⊢
 refine ⟨97 + j, ?_, decide_eq_true (by omega)⟩
 obtain rfl | rfl | rfl : j = 0 \/ j = 1 \/ j = 2 := by omega
 all_goals decide +kernel
end Mc
namespace Mc
open PySem L2 PyProof.Rows
section
variable {S O : Type}
inductive Ex (st : S -> Option (S ⊕ O)) : Nat -> S -> O -> Prop
 | out {s : S} {o : O} (h : st s = some (.inr o)) : Ex st 0 s o
 | go {s s' : S} {o : O} {n : Nat} (h : st s = some (.inl s')) (t : Ex st n s' o) : Ex st (n + 1) s o
inductive Rc (st : S -> Option (S ⊕ O)) : Nat -> S -> S -> Prop
 | nil {s : S} : Rc st 0 s s
 | cons {s s' s'' : S} {n : Nat} (h : st s = some (.inl s')) (t : Rc st n s' s'') : Rc st (n + 1) s s''
variable {st : S -> Option (S ⊕ O)}
theorem Ex.det {n n' : Nat} {s : S} {o o' : O} (a : Ex st n s o) (b : Ex st n' s o') : n = n' /\ o = o' := by
 induction a generalizing n' o' with
 | out h =>
  cases b with
  | out h' => rw [h] at h'; cases h'; exact ⟨rfl, rfl⟩
  | go h' t => rw [h] at h'; cases h'
 | go h t ih =>
  cases b with
  | out h' => rw [h] at h'; cases h'
  | go h' t' =>
   rw [h] at h'; cases h'
   obtain ⟨e, e'⟩ := ih t'
   exact ⟨by omega, e'⟩
theorem Rc.ex {k n : Nat} {s s' : S} {o : O} (a : Rc st k s s') (b : Ex st n s o) : ∃ n', n = n' + k /\ Ex st n' s' o := by
 induction a generalizing n with
 | nil => exact ⟨n, rfl, b⟩
 | cons h t ih =>
  cases b with
  | out h' => rw [h] at h'; cases h'
  | go h' t' =>
   rw [h] at h'; cases h'
   obtain ⟨n', e, q⟩ := ih t'
   exact ⟨n', by omega, q⟩
theorem Rc.to {k n : Nat} {s s' : S} {o : O} (a : Rc st k s s') (b : Ex st n s' o) : Ex st (n + k) s o := by
 induction a with
 | nil => exact b
 | cons h t ih => exact .go h (ih b)
theorem Rc.snoc {k : Nat} {s s' s'' : S} (a : Rc st k s s') (h : st s' = some (.inl s'')) : Rc st (k + 1) s s'' := by
 induction a with
 | nil => exact .cons h .nil
 | cons h' t ih => exact .cons h' (ih h)
theorem Rc.round {m n : Nat} {s : S} {o : O} (a : Rc st (m + 1) s s) : ¬ Ex st n s o := fun b => by
 obtain ⟨n', e, q⟩ := a.ex b
 have := (b.det q).1
 omega
def Res (st : S -> Option (S ⊕ O)) (s : S) (r : Option O) : Prop := ∀ o, r = some o ↔ ∃ n, Ex st n s o
theorem Res.det {s : S} {r r' : Option O} (a : Res st s r) (b : Res st s r') : r = r' := by
 apply Option.ext
 intro o
 exact (a o).trans (b o).symm
theorem Res.out {s : S} {o : O} (h : st s = some (.inr o)) : Res st s (some o) := fun o' => by
 constructor
 · intro e; cases e; exact ⟨0, .out h⟩
 · rintro ⟨n, q⟩; rw [((Ex.out h).det q).2]
theorem Res.step {s s' : S} {r : Option O} (h : st s = some (.inl s')) (a : Res st s' r) : Res st s r := fun o => by
 rw [a o]
 constructor
 ·rintro ⟨n, q⟩; exact ⟨n + 1, .go h q⟩
 ·rintro ⟨n, q⟩
  cases q with
  | out h' => rw [h] at h'; cases h'
  | go h' t => rw [h] at h'; cases h'; exact ⟨_, t⟩
theorem Res.round {s : S} {m : Nat} (a : Rc st (m + 1) s s) : Res st s none := fun o => by
 constructor
 · intro e; cases e
 · rintro ⟨n, q⟩; exact absurd q a.round
open Classical in
noncomputable def bQ (st : S -> Option (S ⊕ O)) (s : S) : Option O := if h : ∃ o n, Ex st n s o then some h.choose else none
theorem jC (st : S -> Option (S ⊕ O)) (s : S) : Res st s (bQ st s) := fun o => by
 unfold bQ
 by_cases h : ∃ o n, Ex st n s o
 ·rw [dif_pos h]
  obtain ⟨n, q⟩ := h.choose_spec
  constructor
  · intro e; cases e; exact ⟨n, q⟩
  · rintro ⟨n', q'⟩; rw [(q.det q').2]
 ·rw [dif_neg h]
  constructor
  · intro e; cases e
  · rintro ⟨n, q⟩; exact absurd ⟨o, n, q⟩ h
theorem Res.eq {s : S} {r : Option O} (a : Res st s r) : r = bQ st s := a.det (jC st s)
theorem rF {S' : Type} {st' : S' -> Option (S' ⊕ O)} {s : S} {s' : S'} (h : ∀ o, (∃ n, Ex st n s o) ↔ ∃ n, Ex st' n s' o) : bQ st s = bQ st' s' :=
 Option.ext fun o => ((jC st s) o).trans ((h o).trans ((jC st' s') o).symm)
structure Und2 (st : S -> Option (S ⊕ O)) (s0 : S) (ps : List S) (s : S) : Prop where
 nd : ps.Nodup
 back : ∀ p ∈ ps, ∃ m, Rc st (m + 1) p s
 res : ∀ r, Res st s r -> Res st s0 r
theorem Und2.start {s0 : S} : Und2 st s0 [] s0 := ⟨List.nodup_nil, fun p hp => by simp at hp, fun r h => h⟩
theorem Und2.next {s0 s s' : S} {ps : List S} (U : Und2 st s0 ps s) (hn : s ∉ ps) (h : st s = some (.inl s')) : Und2 st s0 (ps ++ [s]) s' where
 nd := by
  rw [List.nodup_append]
  exact ⟨U.nd, by simp, fun a ha b hb e => by rw [List.mem_singleton.mp hb] at e; exact hn (e ▸ ha)⟩
 back := fun p hp => by
  rcases List.mem_append.mp hp with q | q
  · obtain ⟨m, r⟩ := U.back p q; exact ⟨m + 1, r.snoc h⟩
  · rw [List.mem_singleton.mp q]; exact ⟨0, .cons h .nil⟩
 res := fun r a => U.res r (a.step h)
theorem Und2.met {s0 s : S} {ps : List S} (U : Und2 st s0 ps s) (h : s ∈ ps) : bQ st s0 = none := by
 obtain ⟨m, r⟩ := U.back s h
 exact ((U.res _ (Res.round r)).eq).symm
theorem Und2.outs {s0 s : S} {ps : List S} {o : O} (U : Und2 st s0 ps s) (h : st s = some (.inr o)) : bQ st s0 = some o := ((U.res _ (Res.out h)).eq).symm
end
abbrev Th := Option (Int × Int)
structure Tb where
 f : List Th
 a : List Th
def aDG (m : Nat) : Th -> Prop
 | none => True
 | some (d, q) => (d = 1 \/ d = -1) /\ 0 <= q /\ q < (m : Int)
structure Tb.good (m : Nat) (t : Tb) : Prop where
 lf : t.f.length = m
 la : t.a.length = m
 gf : ∀ x ∈ t.f, aDG m x
 ga : ∀ x ∈ t.a, aDG m x
end Mc
namespace Mc
open PySem L2 PyProof.Rows
theorem vW {S : Type} (f : S -> Nat) (N : Nat) (l : List S) (hn : l.Nodup) (hf : ∀ s ∈ l, f s < N) (hi : ∀ a ∈ l, ∀ b ∈ l, f a = f b -> a = b) : l.length <= N := by
 have h := o6 N (l.map f) ?_ ?_
 ·rw [List.length_map] at h; exact h
 ·unfold List.Nodup
  rw [List.pairwise_map]
  exact List.Pairwise.imp_of_mem (fun {a b} ha hb hab e => hab (hi a ha b hb e)) hn
 ·intro x hx
  obtain ⟨s, hs, rfl⟩ := List.mem_map.mp hx
  exact hf s hs
theorem aFA {S O : Type} {st : S -> Option (S ⊕ O)} {s s' : S} (h : st s = some (.inl s')) : bQ st s = bQ st s' := (((jC st s').step h).eq).symm
theorem mF {S O : Type} {st : S -> Option (S ⊕ O)} {s : S} {o : O} (h : st s = some (.inr o)) : bQ st s = some o := ((Res.out h).eq).symm
end Mc
namespace L2
open PySem PySem.Spec PyProof.Rows
def Its (z : Str) : It := ⟨fun i _ => i < z.cps.size, fun i H x H' => H' = H /\ ∃ c, z.cps[i]? = some c /\ x = .str ⟨#[c]⟩, fun i _ => i = z.cps.size⟩
theorem xM {P : Program} {w : World} {K : Frag} {tg : Expr} (z : Str) (t : Tok) (T : String) (hT : ∀ A : Around, A.handled = none -> ∀ it, Walks P w A it [it] [it] z.cps.size (SignAt z) fun i h => h.IsStrIter it T z t i)
  (hself : ∀ (A : Around) (it : Addr) (i : Nat) (s : Shared) (Q E : Value -> Shared -> Prop), s.heap.IsStrIter it T z t i -> Q (.ref it) s -> wpAny (model P w) A (pyIter (.ref it)) Q E s)
  (hno : ["enumerate", "zip", "dict_itemiterator", "dict_reverseitemiterator", "odict_iterator", "itertools.zip_longest", "itertools.pairwise"].contains T = false) (it : Addr) : Turn P w K tg (Its z) [it] it (fun i h => h.IsStrIter it T z t i) where
 mem := by simp
 obj := fun i h st b hb => by
  obtain rfl : b = it := by simpa using hb
  obtain ⟨o, e, c, d⟩ := st
  exact ⟨o, e, fun v z => by rw [d] at z; cases z⟩
 keep := fun i h h' st k => by
  obtain ⟨o, e, c, d⟩ := st
  exact ⟨o, k it (by simp) o e, c, d⟩
 item := by
  intro X hP hw hK hc i pins s σ H E I hf st hg
  subst hP hw hK
  obtain ⟨f0, f1, f2, f3, f4, f5⟩ := hf it (by simp)
  refine (hT X.A (I.ok.hd hc) it).item i s _ E hg st fun v h' tk hv st' kp => ?_
  obtain ⟨c, tc, hcc, rfl⟩ := hv
  have I1 : Inv X pins σ H { s with heap := h', toks := tk } := I.turned (t' := tk) (it := it) (fun b o hb e => kp b o (by simpa using hb) e) f0 f1 f3 f4 f5
  obtain ⟨o, e, cc, d⟩ := id st'
  exact ⟨_, rfl, wN (s := { s with heap := h', toks := tk }) e cc d hno ⟨.str ⟨#[c]⟩, H, I1, ⟨_, rfl⟩, ⟨rfl, c, hcc, rfl⟩, st', fun b hb => (hf b hb).1⟩⟩
 done := by
  intro X hP hw hK hc i pins s σ H E I hf st hg
  subst hP hw hK
  obtain ⟨f0, f1, f2, f3, f4, f5⟩ := hf it (by simp)
  have hg : i = z.cps.size := hg
  subst hg
  exact (hT X.A (I.ok.hd hc) it).done s _ E st fun h' tk kp => ⟨rfl, I.turned (t' := tk) (it := it) (fun b o hb e => kp b o (by simpa using hb) e) f0 f1 f3 f4 f5⟩
 self := fun A i s Q E st h => hself A it i s Q E st h
def aOC (te : TE) : TI := fun σ H R => te σ H fun x H1 => ∃ z, x = .str z /\ R (Its z) H1
theorem aDH {X : Cx} {tg l : Expr} {tl : TE} (hl : PE X l tl) : PI X tg l (aOC tl) := by
 intro pins s σ H R I h
 refine thn (hl pins s σ H _ I h) fun v s1 zz0 => ?_
 obtain ⟨x, H1, I1, r1, q1⟩ := zz0
 obtain ⟨z, e, q⟩ := q1
 subst e
 obtain ⟨t, rfl⟩ := r1
 refine wpAny_pyIter_strU ?_
 have I2 : Inv X pins σ H1 { s1 with heap := s1.heap.push { cls := .type (strIterType z), data := .fields #[.str z t, .int 0 0] } } := I1.kept (t' := s1.toks) fun b o e => Heap.get?_push_of_some _ e
 have st : (s1.heap.push { cls := .type (strIterType z), data := .fields #[.str z t, .int 0 0] }).IsStrIter s1.heap.objs.size (strIterType z) z t 0 := ⟨_, Heap.get?_push_size _ rfl, rfl, rfl⟩
 have fin : ∀ b ∈ [s1.heap.objs.size], j5 X pins H1 b := fun b hb => by
  obtain rfl := List.mem_singleton.mp hb
  exact I1.fpOk (Nat.le_refl _) (I1.hok.fresh (Nat.le_refl _))
 by_cases ha : (z.cps.all fun x => decide (x < 128)) = true
 ·have eT : strIterType z = "str_ascii_iterator" := by unfold strIterType; rw [if_pos ha]
  rw [eT] at st I2 ⊢
  exact ⟨s1.heap.objs.size, [s1.heap.objs.size], _, _, H1, rfl, I2, xM z t "str_ascii_iterator" (fun A hA it => Walks.strAscii hA it z t) (fun A it i s Q E st h => wpAny_pyIter_striter_ascii st h) (by decide) _, st, fin, q⟩
 ·have eT : strIterType z = "str_iterator" := by unfold strIterType; rw [if_neg ha]
  rw [eT] at st I2 ⊢
  exact ⟨s1.heap.objs.size, [s1.heap.objs.size], _, _, H1, rfl, I2, xM z t "str_iterator" (fun A hA it => Walks.strWide hA it z t) (fun A it i s Q E st h => wpAny_pyIter_striter_wide st h) (by decide) _, st, fin, q⟩
theorem aAD : ∀ {xs : List V} {ys : List Value}, xs.length = ys.length -> (∀ (i : Nat) x y, xs[i]? = some x -> ys[i]? = some y -> bC x y) -> bN xs ys
 | [], [], _, _ => .nil
 | [], _ :: _, h, _ => by simp at h
 | _ :: _, [], h, _ => by simp at h
 | x :: xs, y :: ys, h, f => .cons (f 0 x y rfl rfl) (aAD (by simpa using h) fun i a b h1 h2 => f (i + 1) a b (by simpa using h1) (by simpa using h2))
end L2
namespace L2
open PySem PySem.Spec PyProof.Rows
structure InK (env : Env) (s₀ : Shared) (m cm : Str -> Option Value) (s : Shared) : Prop where
 ic : InCall s₀ env.locals m s
 cell : ∀ n c, env.cells.lookup n = some c -> s.heap.IsCell c (cm n)
 inj : ∀ n n' c, env.cells.lookup n = some c -> env.cells.lookup n' = some c -> n = n'
 ne : ∀ n c, env.cells.lookup n = some c -> c ≠ env.locals
 up : ∀ n c, env.kindOf n = some .cell -> env.cells.lookup n = some c -> env.locals < c
section
variable {M : Model} {A : Around} {E : Value -> Shared -> Prop} {s₀ s : Shared} {m cm : Str -> Option Value} {env : Env}
theorem InK.stL {n : Str} {v : Value} {Q : Unit -> Shared -> Prop} (x : InK env s₀ m cm s) (hk : env.scope.kind = .function) (hl : env.kindOf n = some .local)
  (h : ∀ s', InK env s₀ (fun y => if y = n then some v else m y) cm s' -> Q () s') : wpAny M A (storeName env n v) Q E s := by
 refine wpAny_storeName_local hl x.ic.ns (fun h' hn' hs' => h _ ⟨⟨?_, hn', fun b o e => ?_, x.ic.fresh⟩, fun k c hc => ?_, x.inj, x.ne, x.up⟩) (by rw [hk]; rfl)
 ·obtain ⟨h₁, tk, rfl⟩ := x.ic.same
  exact ⟨h', _, rfl⟩
 ·exact hs'.extBut b o (Nat.ne_of_lt (Nat.lt_of_lt_of_le (Heap.lt_size e) x.ic.fresh)) (x.ic.keep b o e)
 ·exact (x.cell k c hc).sameBut hs' (x.ne k c hc)
theorem InK.stC {n : Str} {c : Addr} {v : Value} {Q : Unit -> Shared -> Prop} (x : InK env s₀ m cm s) (hk : env.scope.kind = .function) (hl : env.kindOf n = some .cell)
  (hc : env.cells.lookup n = some c)
  (h : ∀ s', InK env s₀ m (fun y => if y = n then some v else cm y) s' -> Q () s') : wpAny M A (storeName env n v) Q E s := by
 have hLc := x.up n c hl hc
 refine wpAny_storeName_cell hk hl hc (x.cell n c hc) fun h' hc' hs' => h _ ⟨⟨?_, x.ic.ns.sameBut hs' (Nat.ne_of_lt hLc), fun b o e => ?_, x.ic.fresh⟩, fun k c' hk' => ?_, x.inj, x.ne, x.up⟩
 ·obtain ⟨h₁, tk, rfl⟩ := x.ic.same
  exact ⟨h', _, rfl⟩
 ·exact hs'.extBut b o (Nat.ne_of_lt (Nat.lt_trans (Nat.lt_of_lt_of_le (Heap.lt_size e) x.ic.fresh) hLc)) (x.ic.keep b o e)
 ·by_cases hkn : k = n
  ·subst hkn
   rw [hc] at hk'; cases hk'
   simpa using hc'
  ·rw [if_neg hkn]
   exact (x.cell k c' hk').sameBut hs' fun e => hkn (x.inj k n c' hk' (e ▸ hc))
theorem InK.binds (f : Str × Value -> PUnit -> Sem (ForInStep PUnit)) (hf : ∀ n v u, f (n, v) u = (do storeName env n v; pure (.yield ⟨⟩))) (hk : env.scope.kind = .function) :
  ∀ (binds : List (Str × Value)) (m cm : Str -> Option Value) (s : Shared) (Q : PUnit -> Shared -> Prop), InK env s₀ m cm s ->
   (∀ x ∈ binds, env.kindOf x.1 = some .local \/ (env.kindOf x.1 = some .cell /\ (env.cells.lookup x.1).isSome = true)) ->
   (∀ s', InK env s₀ (bindL env.kindOf binds m) (bindC env.kindOf binds cm) s' -> Q ⟨⟩ s') -> wpAny M A (forIn binds ⟨⟩ f) Q E s
 | [], m, cm, s, Q, x, _, h => by rw [List.forIn_nil]; exact wpAny_pure (h s x)
 | (n, v) :: r, m, cm, s, Q, x, hkind, h => by
  rw [List.forIn_cons, hf]
  have hr : ∀ y ∈ r, env.kindOf y.1 = some .local \/ (env.kindOf y.1 = some .cell /\ (env.cells.lookup y.1).isSome = true) := fun y hy => hkind y (List.mem_cons_of_mem _ hy)
  rcases hkind (n, v) List.mem_cons_self with hl | ⟨hl, hc⟩
  ·refine wpAny_bind (wpAny_bind (x.stL hk hl fun s' x' => wpAny_pure (InK.binds f hf hk r _ _ s' Q x' hr fun s'' x'' => h s'' ?_)))
   unfold bindL bindC; rw [if_pos hl, if_pos hl]; exact x''
  ·obtain ⟨c, hc⟩ := Option.isSome_iff_exists.mp hc
   have hnl : ¬ env.kindOf n = some .local := by rw [hl]; decide
   refine wpAny_bind (wpAny_bind (x.stC hk hl hc fun s' x' => wpAny_pure (InK.binds f hf hk r _ _ s' Q x' hr fun s'' x'' => h s'' ?_)))
   unfold bindL bindC; rw [if_neg hnl, if_neg hnl]; exact x''
end
theorem jD : ∀ (names : List (Str × NameKind)) (n : Nat) (acc : List (Str × Addr)), cellsFrom n names acc = cellsFrom n names [] ++ acc
 | [], _, _ => rfl
 | (x, k) :: r, n, acc => by
  unfold cellsFrom
  split
  · rw [jD r (n + 1) ((x, n) :: acc), jD r (n + 1) [(x, n)], List.append_assoc]; rfl
  · exact jD r n acc
theorem mG : ∀ (names : List (Str × NameKind)) (n : Nat) {x : Str} {c : Addr}, (x, c) ∈ cellsFrom n names [] -> (x, NameKind.cell) ∈ names
 | [], _, _, _, h => by simp [cellsFrom] at h
 | (y, k) :: r, n, x, c, h => by
  unfold cellsFrom at h
  split at h
  ·rename_i hk
   rw [jD] at h
   rcases List.mem_append.mp h with h | h
   ·exact List.mem_cons_of_mem _ (mG r _ h)
   ·have : (x, c) = (y, n) := by simpa using h
    cases this
    rw [eq_of_beq hk]; exact List.mem_cons_self
  ·exact List.mem_cons_of_mem _ (mG r _ h)
theorem n5 {α : Type} {x : Str} : ∀ {l l' : List (Str × α)}, (l ++ l').lookup x = (l.lookup x).or (l'.lookup x)
 | [], l' => by simp
 | (y, v) :: r, l' => by
  rw [List.cons_append, List.lookup_cons, List.lookup_cons]
  cases x == y with
  | true => rfl
  | false => exact n5
theorem aDI {α : Type} {x : Str} {l : List (Str × α)} (h : ∀ v, (x, v) ∉ l) : l.lookup x = none := by
 cases e : l.lookup x with
 | none => rfl
 | some v => exact absurd (PySem.mem_of_lookup e) (h v)
noncomputable def cP (qual : Str) (scope : Scope) (L f : Addr) (cd : Value) (cl : List (Str × Addr)) : Env := newEnv scope L mainGlobals (cellsFrom (L + 1) scope.names cl) (qual ++ ".<locals>.") (some f) cd none builtinsNs
structure ClAt (h : Heap) (scope : Scope) (cl : List (Str × Addr)) (cm : Str -> Option Value) : Prop where
 cell : ∀ n c, cl.lookup n = some c -> h.IsCell c (cm n)
 inj : ∀ n n' c, cl.lookup n = some c -> cl.lookup n' = some c -> n = n'
 off : ∀ y ∈ scope.names, y.2 = .cell -> cl.lookup y.1 = none
section
variable {M : Model} {A : Around} {E : Value -> Shared -> Prop} {s : Shared}
theorem aAE {scope : Scope} {binds : List (Str × Value)} {qual : Str} {f : Addr} {cd : Value} {cl : List (Str × Addr)} {cm : Str -> Option Value} {Q : Env -> Shared -> Prop}
  (hk : scope.kind = .function) (C : ClAt s.heap scope cl cm)
  (hkind : ∀ x ∈ binds, scope.names.lookup x.1 = some .local \/ scope.names.lookup x.1 = some .cell)
  (hQ : ∀ s', InK (cP qual scope s.heap.objs.size f cd cl) s (bindL (cP qual scope s.heap.objs.size f cd cl).kindOf binds fun _ => none) (bindC (cP qual scope s.heap.objs.size f cd cl).kindOf binds fun n => if (cl.lookup n).isSome then cm n else none) s' -> Q (cP qual scope s.heap.objs.size f cd cl) s') :
  wpAny M A (newFunctionEnv scope mainGlobals cl binds (qual ++ ".<locals>.") (some f) cd none builtinsNs) Q E s := by
 simp only [newFunctionEnv, Option.isSome_none, Bool.false_eq_true, if_false]
 refine wpAny_bind (wpAny_alloc ?_)
 refine wpAny_bind (wpAny_layCells _ (fun name kind cells => by cases hkc : kind == NameKind.cell <;> simp [hkc]) _ _ _ _ ?_)
 have ok := cellsFrom_ok scope.names (s.heap.push { cls := .type "frame", data := .dict #[] }) (s.heap.objs.size + 1) [] ⟨fun _ _ hm => (nomatch hm), List.Pairwise.nil⟩ (by rw [Heap.size_push]; exact Nat.le_refl _)
 rw [Heap.size_push] at ok
 rw [show ({ s with heap := s.heap.push { cls := .type "frame", data := .dict #[] } } : Shared).heap.objs.size = s.heap.objs.size + 1 from Heap.size_push ..]
 have keep : ∀ b o, s.heap.get? b = some o -> (pushCells (s.heap.push { cls := .type "frame", data := .dict #[] }) scope.names).get? b = some o := fun b o e => pushCells_keeps _ _ b o (Heap.get?_push_of_some _ e)
 have hcells : (cP qual scope s.heap.objs.size f cd cl).cells = cellsFrom (s.heap.objs.size + 1) scope.names [] ++ cl := jD _ _ _
 have two : ∀ n c, (cP qual scope s.heap.objs.size f cd cl).cells.lookup n = some c -> ((cellsFrom (s.heap.objs.size + 1) scope.names []).lookup n = some c /\ cl.lookup n = none) \/ ((cellsFrom (s.heap.objs.size + 1) scope.names []).lookup n = none /\ cl.lookup n = some c) := fun n c e => by
  rw [hcells, n5] at e
  cases q : (cellsFrom (s.heap.objs.size + 1) scope.names []).lookup n with
  | none => rw [q] at e; exact .inr ⟨rfl, by simpa using e⟩
  | some d =>
   rw [q] at e
   have e' : some d = some c := by simpa using e
   cases e'
   exact .inl ⟨rfl, C.off (n, .cell) (mG _ _ (PySem.mem_of_lookup q)) rfl⟩
 have big : ∀ n c, (cellsFrom (s.heap.objs.size + 1) scope.names []).lookup n = some c -> s.heap.objs.size < c := fun n c e => (ok.empty n c (PySem.mem_of_lookup e)).2
 have small : ∀ n c, cl.lookup n = some c -> c < s.heap.objs.size := fun n c e => (C.cell n c e).lt
 refine wpAny_bind (InK.binds (s₀ := s) (env := cP qual scope s.heap.objs.size f cd cl)
  _ (fun _ _ _ => rfl) hk binds (fun _ => none) (fun n => if (cl.lookup n).isSome then cm n else none) _ _
  ⟨⟨⟨_, _, rfl⟩, (Heap.Ns.new s.heap (.type "frame")).keeps (pushCells_keeps _ _), keep, Nat.le_refl _⟩, fun n c e => ?_, fun n n' c e e' => ?_, fun n c e => ?_, fun n c hc e => ?_⟩
  (fun x hx => ?_) fun s' x => wpAny_pure (hQ s' x))
 ·rcases two n c e with ⟨q, q'⟩ | ⟨q, q'⟩
  ·rw [q']; exact (ok.empty n c (PySem.mem_of_lookup q)).1
  ·rw [q']; exact (C.cell n c q').keeps keep
 ·rcases two n c e with ⟨q, q'⟩ | ⟨q, q'⟩ <;> rcases two n' c e' with ⟨r, r'⟩ | ⟨r, r'⟩
  ·exact name_of_addr ok.apart (PySem.mem_of_lookup q) (PySem.mem_of_lookup r)
  ·exact absurd (big _ _ q) (Nat.not_lt.mpr (Nat.le_of_lt (small _ _ r')))
  ·exact absurd (big _ _ r) (Nat.not_lt.mpr (Nat.le_of_lt (small _ _ q')))
  ·exact C.inj n n' c q' r'
 ·show c ≠ s.heap.objs.size
  rcases two n c e with ⟨q, q'⟩ | ⟨q, q'⟩
  ·exact Nat.ne_of_gt (big _ _ q)
  ·exact Nat.ne_of_lt (small _ _ q')
 ·show s.heap.objs.size < c
  rcases two n c e with ⟨q, q'⟩ | ⟨q, q'⟩
  ·exact big _ _ q
  ·rw [C.off (n, .cell) (PySem.mem_of_lookup hc) rfl] at q'; cases q'
 ·rcases hkind x hx with q | q
  ·exact .inl q
  ·refine .inr ⟨q, ?_⟩
   obtain ⟨c, e⟩ := lQ (n := s.heap.objs.size + 1) q
   rw [hcells, n5, e]; rfl
end
end L2
namespace L2
open PySem PySem.Spec PyProof.Rows
noncomputable def hid (cs : List Addr) (H : Hp) : Hp := fun b => if b ∈ cs then none else H b
noncomputable def shw (cs : List Addr) (H H' : Hp) : Hp := fun b => if b ∈ cs then H b else H' b
theorem nH {cs : List Addr} {H : Hp} {b : Addr} (h : b ∈ cs) : hid cs H b = none := if_pos h
theorem bW {cs : List Addr} {H : Hp} {b : Addr} (h : b ∉ cs) : hid cs H b = H b := if_neg h
theorem o7 {cs : List Addr} {H H' : Hp} {b : Addr} (h : b ∈ cs) : shw cs H H' b = H b := if_pos h
theorem eM {cs : List Addr} {H H' : Hp} {b : Addr} (h : b ∉ cs) : shw cs H H' b = H' b := if_neg h
theorem hJ {cs : List Addr} {H : Hp} {b : Addr} (h : H b = none) : hid cs H b = none := by
 by_cases q : b ∈ cs
 · exact nH q
 · rw [bW q]; exact h
theorem n6 {cs : List Addr} {H : Hp} {b : Addr} {o : HO} (h : hid cs H b = some o) : H b = some o /\ b ∉ cs := by
 by_cases q : b ∈ cs
 · rw [nH q] at h; cases h
 · rw [bW q] at h; exact ⟨h, q⟩
def FnO (f : Addr) (o : Obj) : HO := .ext fun h => h.get? f = some o
def eN (c : Addr) (o : Obj) (v : V) : HO := .frz o (.ext fun h => ∃ u, bC v u /\ h.IsCell c (some u))
section
variable {P : Program} {w : World} {H : Hp} {h : Heap}
theorem FnO.get {f : Addr} {o : Obj} (x : HOk P w H h) (e : H f = some (FnO f o)) : h.get? f = some o := (x f _ e).1
theorem eN.get {c : Addr} {o : Obj} {v : V} (x : HOk P w H h) (e : H c = some (eN c o v)) : h.get? c = some o /\ ∃ u, bC v u /\ h.IsCell c (some u) := ⟨(x c _ e).1, (x c _ e).2.1⟩
theorem FnO.ok {f : Addr} {o : Obj} (e : h.get? f = some o) : cE P w H h f (FnO f o) := ⟨e, ⟨o, e⟩, fun h1 h2 q k => k o q⟩
theorem eN.ok {c : Addr} {o : Obj} {v : V} {u : Value} (r : bC v u) (e : h.get? c = some o) (hd : o.data = .cell (some u)) : cE P w H h c (eN c o v) :=
 ⟨e, ⟨u, r, o, e, hd⟩, ⟨o, e⟩, fun h1 h2 ⟨u, r, o, ho, hd⟩ k => ⟨u, r, o, k o ho, hd⟩⟩
end
def Celd (cs : List Addr) (H : Hp) : Prop := ∀ c ∈ cs, ∃ o v, H c = some (eN c o v)
theorem Celd.out {cs : List Addr} {H : Hp} (h : Celd cs H) {b : Addr} {o : HO} (e : H b = some o) (n : ∀ o' v, o ≠ eN b o' v) : b ∉ cs := fun z => by
 obtain ⟨o', v, q⟩ := h b z
 rw [q] at e; cases e
 exact n o' v rfl
theorem HOk.hid {P : Program} {w : World} {H : Hp} {h : Heap} {cs : List Addr} (x : HOk P w H h) (hc : Celd cs H) : HOk P w (hid cs H) h := fun b u e => by
 obtain ⟨e1, _⟩ := n6 e
 exact (x b u e1).stay (fun _ _ _ q => q) (fun c q => by rw [bW (hc.out q fun _ v z => nomatch z)]; exact q) (fun c _ q => by rw [bW (hc.out q fun _ v z => nomatch z)]; exact q) fun c _ q => by rw [bW (hc.out q fun _ v z => nomatch z)]; exact q
structure CloScope (N ps fr : List Str) (sc : Scope) : Prop where
 kind : sc.kind = .function
 co : sc.isCoroutine = false
 gen : sc.isGenerator = false
 nd : N.Nodup
 pre : N.take (ps ++ fr).length = ps ++ fr
 par : ∀ x ∈ ps, sc.names.lookup x = some .local \/ sc.names.lookup x = some .cell
 cap : ∀ x ∈ fr, sc.names.lookup x = some .free
 only : ∀ y ∈ sc.names, y.2 = .free -> y.1 ∈ fr
 off : ∀ y ∈ sc.names, y.2 = .cell -> y.1 ∉ fr
structure CapAt (H : Hp) (fr : List Str) (cl : List (Str × Addr)) (vs : List V) : Prop where
 len : vs.length = fr.length
 only : ∀ n c, cl.lookup n = some c -> n ∈ fr
 inj : ∀ n n' c, cl.lookup n = some c -> cl.lookup n' = some c -> n = n'
 at' : ∀ (i : Nat) x v, fr[i]? = some x -> vs[i]? = some v -> ∃ c o, cl.lookup x = some c /\ H c = some (eN c o v)
theorem CapAt.get {H : Hp} {fr : List Str} {cl : List (Str × Addr)} {vs : List V} (a : CapAt H fr cl vs) {n : Str} {c : Addr} (e : cl.lookup n = some c) : ∃ o v, H c = some (eN c o v) := by
 obtain ⟨i, hi, hx⟩ := List.mem_iff_getElem.mp (a.only n c e)
 obtain ⟨c', o, e', q⟩ := a.at' i n (vs[i]'(by rw [a.len]; exact hi)) (by rw [List.getElem?_eq_getElem hi, hx]) (List.getElem?_eq_getElem _)
 rw [e] at e'; cases e'
 exact ⟨_, _, q⟩
noncomputable def aY (fr : List Str) (cl : List (Str × Addr)) : List Addr := fr.filterMap fun x => cl.lookup x
theorem CapAt.celd {H : Hp} {fr : List Str} {cl : List (Str × Addr)} {vs : List V} (a : CapAt H fr cl vs) : Celd (aY fr cl) H := fun c hc => by
 obtain ⟨x, _, e⟩ := List.mem_filterMap.mp hc
 exact a.get e
theorem CapAt.same {H H' : Hp} {fr : List Str} {cl : List (Str × Addr)} {vs : List V} (a : CapAt H fr cl vs) (s : aR H H') : CapAt H' fr cl vs := ⟨a.len, a.only, a.inj, fun i x v h1 h2 => let ⟨c, o, e, q⟩ := a.at' i x v h1 h2; ⟨c, o, e, s _ _ q⟩⟩
noncomputable def iJ (CX : CXT) (P : Program) (w : World) (K : Frag) (mg : Str -> Option Value) (base : Heap) (N fr : List Str) (qual : Str) (scope : Scope) (f : Addr) (cd : Value) (cl : List (Str × Addr)) (A : Around) (outer : List Env) (s : Shared) (H : Hp) (E : XK) : Cx where
 prog := P
 w := w
 K := K
 mg := mg
 base := base
 A := A.deeper (cP qual scope s.heap.objs.size f cd cl)
 N := N
 s₀ := s
 H₀ := hid (aY fr cl) H
 env := cP qual scope s.heap.objs.size f cd cl
 outer := outer
 stack := cP qual scope s.heap.objs.size f cd cl :: outer
 ex := []
 calm := true
 fn := fun x => (cl.lookup x).isNone
 pn := []
 xe := fun e s' => wpAny (model P w) (A.deeper (cP qual scope s.heap.objs.size f cd cl)) (leaving (cP qual scope s.heap.objs.size f cd cl) e) (fun _ s'' => CX outer H s E e s'') (fun e' s'' => CX outer H s E e' s'') s'
section
variable {CX : CXT} {P : Program} {w : World} {K : Frag} {mg : Str -> Option Value} {base : Heap} {N ps fr : List Str} {qual : Str} {scope : Scope} {f : Addr} {cd : Value} {cl : List (Str × Addr)} {A : Around} {outer : List Env} {s s1 : Shared} {H : Hp} {E : XK} {us : List Value} {vs cvs : List V}
theorem aAF {h : Heap} (hok : HOk P w H h) (C : CapAt H fr cl cvs) : ∃ cm : Str -> Option Value, (∀ n c, cl.lookup n = some c -> ∃ v u, (∃ o, H c = some (eN c o v)) /\ bC v u /\ cm n = some u /\ h.IsCell c (some u)) := by
 have key : ∀ n, ∃ x : Option Value, ∀ c, cl.lookup n = some c -> ∃ v u, (∃ o, H c = some (eN c o v)) /\ bC v u /\ x = some u /\ h.IsCell c (some u) := fun n => by
  cases e : cl.lookup n with
  | none => exact ⟨none, fun c z => nomatch z⟩
  | some c =>
   obtain ⟨o, v, q⟩ := C.get e
   obtain ⟨_, u, r, z⟩ := eN.get hok q
   exact ⟨some u, fun c' e' => by cases e'; exact ⟨v, u, ⟨o, q⟩, r, rfl, z⟩⟩
 exact ⟨fun n => (key n).choose, fun n c e => (key n).choose_spec c e⟩
theorem n8 {n : Str} {L : Nat} : (cP qual scope L f cd cl).cells.lookup n = ((cellsFrom (L + 1) scope.names []).lookup n).or (cl.lookup n) := by
 rw [show (cP qual scope L f cd cl).cells = cellsFrom (L + 1) scope.names [] ++ cl from jD _ _ _, n5]
theorem qF {n : Str} {c : Addr} {L : Nat} (S : CloScope N ps fr scope) (C : CapAt H fr cl cvs) (e : cl.lookup n = some c) : (cP qual scope L f cd cl).cells.lookup n = some c := by
 rw [n8, aDI fun v hv => S.off (n, .cell) (mG _ _ hv) rfl (C.only n c e)]
 simpa using e
theorem sZ {cm : Str -> Option Value} (S : CloScope N ps fr scope) (C : CapAt H fr cl cvs) (hd : A.handled = none) (e0 : Env0 P w K mg base A outer s H) (hl : vs.length = ps.length) (r : bN vs us)
  (hcm : ∀ n c, cl.lookup n = some c -> ∃ v u, (∃ o, H c = some (eN c o v)) /\ bC v u /\ cm n = some u /\ s.heap.IsCell c (some u))
  (x : InK (cP qual scope s.heap.objs.size f cd cl) s (bindL (cP qual scope s.heap.objs.size f cd cl).kindOf (ps.zip us) fun _ => none) (bindC (cP qual scope s.heap.objs.size f cd cl).kindOf (ps.zip us) fun n => if (cl.lookup n).isSome then cm n else none) s1) :
  Inv (iJ CX P w K mg base N fr qual scope f cd cl A outer s H E) [] (start N (vs ++ cvs)) (hid (aY fr cl) H) s1 := by
 have hpl : (ps ++ fr).length <= N.length := by have := congrArg List.length S.pre; rw [List.length_take] at this; omega
 have hvl : (vs ++ cvs).length = (ps ++ fr).length := by rw [List.length_append, List.length_append, hl, C.len]
 obtain ⟨h1, tk, rfl, hk⟩ := x.ic.done
 have noA : ∀ b : Addr, b ∉ (iJ CX P w K mg base N fr qual scope f cd cl A outer s H E).ex := fun b z => absurd (show b ∈ ([] : List Addr) from z) (by simp)
 have cab : ∀ y c, cl.lookup y = none -> (cP qual scope s.heap.objs.size f cd cl).cells.lookup y = some c -> s.heap.objs.size < c := fun y c n e => by
  rw [n8, n] at e
  have e' : (cellsFrom (s.heap.objs.size + 1) scope.names []).lookup y = some c := by simpa using e
  have ok := cellsFrom_ok scope.names (s.heap.push { cls := .type "frame", data := .dict #[] }) (s.heap.objs.size + 1) [] ⟨fun _ _ hm => (nomatch hm), List.Pairwise.nil⟩ (by rw [Heap.size_push]; exact Nat.le_refl _)
  rw [Heap.size_push] at ok
  exact (ok.empty y c (PySem.mem_of_lookup e')).2
 refine ⟨⟨e0.mod, S.kind, rfl, rfl, Nat.le_refl _, fun y z c h1 h2 => x.inj y z c h1 h2, fun y hy => ?_, fun y c hf h => ?_, fun _ => hd, Around.frames_deeper e0.frames, .inr ⟨rfl, rfl⟩, fun b z => absurd z (noA b), fun b o e => ⟨(e0.bs b o e).1, hJ (e0.bs b o e).2⟩, e0.bsz, fun b _ _ => noA b, fun b z => absurd z (noA b), e0.funs, fun b hb => hJ (e0.frf b hb)⟩,
  rfl, e0.bare, Un.kept hk, ⟨_, x.ic.ns, fun i y v h1 h2 h3 => ?_⟩, fun y c h => ⟨_, x.cell y c h⟩, hJ (e0.hok.fresh (Nat.le_refl _)), fun y c h => ?_, fun p hp => absurd (show p ∈ ([] : List (Addr × Obj)) from hp) (by simp), (e0.hok.hid C.celd).kept hk, ?_⟩
 ·have hy : scope.names.lookup y = some .cell \/ scope.names.lookup y = some .free := hy
  rcases hy with hy | hy
  ·obtain ⟨c, e⟩ := lQ (n := s.heap.objs.size + 1) hy
   exact ⟨c, by show (cP qual scope s.heap.objs.size f cd cl).cells.lookup y = _; rw [n8, e]; rfl⟩
  ·obtain ⟨i, hi, hx⟩ := List.mem_iff_getElem.mp (S.only _ (PySem.mem_of_lookup hy) rfl)
   obtain ⟨c, _, e, _⟩ := C.at' i y (cvs[i]'(by rw [C.len]; exact hi)) (by rw [List.getElem?_eq_getElem hi, hx]) (List.getElem?_eq_getElem _)
   exact ⟨c, qF S C e⟩
 ·have hf : (cl.lookup y).isNone = true := hf
  exact Nat.le_of_lt (cab y c (Option.isNone_iff_eq_none.mp hf) h)
 ·have hi : i < (vs ++ cvs).length := by
   unfold start at h2
   by_cases hi : i < (vs ++ cvs).length
   ·exact hi
   ·rw [List.getElem?_append_right (by simpa using hi)] at h2
    rw [List.getElem?_replicate] at h2
    split at h2 <;> cases h2
  have ha : (vs ++ cvs)[i]? = some v := by
   unfold start at h2
   rw [List.getElem?_append_left (by simpa using hi), List.getElem?_map] at h2
   cases e : (vs ++ cvs)[i]? with
   | none => rw [e] at h2; cases h2
   | some a => rw [e] at h2; cases h2; rfl
  have hp : (ps ++ fr)[i]? = some y := by
   rw [<- S.pre, List.getElem?_take_of_lt (by omega)]; exact h1
  have ndA : (ps ++ fr).Nodup := by rw [<- S.pre]; exact S.nd.sublist (List.take_sublist _ _)
  have ndP : ps.Nodup := (List.nodup_append.mp ndA).1
  by_cases hip : i < ps.length
  ·rw [List.getElem?_append_left (by omega)] at ha
   rw [List.getElem?_append_left hip] at hp
   obtain ⟨u, hu, rv⟩ := r.get ha
   refine ⟨u, rv, ?_⟩
   rcases S.par y (List.mem_of_getElem? hp) with k | k
   ·exact .inl ⟨k, o0 ndP hp hu k⟩
   ·obtain ⟨c, e⟩ := lQ (n := s.heap.objs.size + 1) k
    have e' : (cP qual scope s.heap.objs.size f cd cl).cells.lookup y = some c := by rw [n8, e]; rfl
    refine .inr ⟨.inl k, c, e', ?_⟩
    have q := x.cell y c e'
    rw [o3 ndP hp hu (by show scope.names.lookup y ≠ _; rw [k]; decide)] at q
    exact q
  ·rw [List.getElem?_append_right (by omega)] at ha
   rw [List.getElem?_append_right (by omega)] at hp
   rw [hl] at ha
   obtain ⟨c, o, e, q⟩ := C.at' _ y v hp ha
   obtain ⟨_, u2, r2, z2⟩ := eN.get e0.hok q
   have e' := qF (qual := qual) (f := f) (cd := cd) (L := s.heap.objs.size) S C e
   have hfree : scope.names.lookup y = some .free := S.cap y (List.mem_of_getElem? hp)
   refine ⟨u2, r2, .inr ⟨.inr hfree, c, e', ?_⟩⟩
   exact z2.keeps hk
 ·cases e : cl.lookup y with
  | none => exact hJ (e0.hok.fresh (Nat.le_of_lt (cab y c e h)))
  | some c' =>
   have h' := qF (qual := qual) (f := f) (cd := cd) (L := s.heap.objs.size) S C e
   have h : (cP qual scope s.heap.objs.size f cd cl).cells.lookup y = some c := h
   rw [h] at h'; cases h'
   exact nH (List.mem_filterMap.mpr ⟨y, C.only y c e, e⟩)
 ·unfold start
  show _ = N.length
  rw [List.length_append, List.length_map, List.length_replicate]
  omega
theorem rQ {pins : List (Addr × Obj)} {σ : St} {H' : Hp} {s' : Shared} (S : CloScope N ps fr scope) (C : CapAt H fr cl cvs) (e0 : Env0 P w K mg base A outer s H) (J : Inv (iJ CX P w K mg base N fr qual scope f cd cl A outer s H E) pins σ H' s') :
  (∀ c ∈ aY fr cl, H' c = none) /\ Un (frs outer) [] H (shw (aY fr cl) H H') s.heap s'.heap /\ HOk P w (shw (aY fr cl) H H') s'.heap := by
 have un : Un (frs outer) [] (hid (aY fr cl) H) H' s.heap s'.heap := J.base
 have fr' : ∀ c ∈ aY fr cl, H' c = none := fun c hc => by
  obtain ⟨x, _, e⟩ := List.mem_filterMap.mp hc
  exact J.freeC x c (qF S C e)
 have out : ∀ b, H b = none -> b ∉ aY fr cl := fun b n z => by
  obtain ⟨o, v, q⟩ := C.celd b z
  rw [n] at q; cases q
 refine ⟨fr', ⟨fun b o e n h1 h2 => un.keep b o e (hJ n) h1 h2, fun b o e n h1 h2 => un.slot b o e (hJ n) h1 h2, fun b o e n h2 => by rw [eM (out b n)]; exact un.free b o e (hJ n) h2, un.there,
  fun b xs q => ?_, fun b o u q => ?_, fun b ps q => ?_⟩, fun b u e => ?_⟩
 ·have hb := C.celd.out q fun _ v z => nomatch z
  rw [eM hb]; exact un.tups b xs (by rw [bW hb]; exact q)
 ·by_cases hb : b ∈ aY fr cl
  ·rw [o7 hb]; exact q
  ·rw [eM hb]; exact un.frzs b o u (by rw [bW hb]; exact q)
 ·have hb := C.celd.out q fun _ v z => nomatch z
  rw [eM hb]; exact un.tbls b ps (by rw [bW hb]; exact q)
 ·by_cases hb : b ∈ aY fr cl
  ·rw [o7 hb] at e
   obtain ⟨o, v, q⟩ := C.celd b hb
   rw [q] at e; cases e
   obtain ⟨ho, u, r, o2, ho2, hd⟩ := eN.get e0.hok q
   rw [ho] at ho2; cases ho2
   exact eN.ok r (un.keep b o ho (nH hb) (fun z => by have := e0.frf b z; rw [q] at this; cases this) (by simp)) hd
  ·rw [eM hb] at e
   have ne : ∀ c o, H' c = some o -> c ∉ aY fr cl := fun c o q z => by rw [fr' c z] at q; cases q
   exact (J.hok b u e).stay (fun _ _ _ q => q) (fun c q => by rw [eM (ne c _ q)]; exact q) (fun c _ q => by rw [eM (ne c _ q)]; exact q) fun c _ q => by rw [eM (ne c _ q)]; exact q
end
section
variable {P : Program} {w : World} {K : Frag} {mg : Str -> Option Value} {base : Heap} {N ps fr : List Str} {qual : Str} {scope : Scope} {f : Addr} {cd : Value} {cl : List (Str × Addr)} {A : Around} {outer : List Env} {s : Shared} {H : Hp} {E : XK} {cvs : List V}
theorem s9 {ev : Value} {s' : Shared} (S : CloScope N ps fr scope) (C : CapAt H fr cl cvs) (e0 : Env0 P w K mg base A outer s H)
  (h : Fly (iJ (CXe P w) P w K mg base N fr qual scope f cd cl A outer s H E) (fun c e H' => (∀ a ∈ aY fr cl, H' a = none) -> E c e (shw (aY fr cl) H H')) ev s') : (iJ (CXe P w) P w K mg base N fr qual scope f cd cl A outer s H E).xe ev s' := by
 obtain ⟨e, C', od, σ, H', rfl, I, fl, q⟩ := h
 show wpAny (model P w) _ (leaving _ (.ref e)) _ _ s'
 unfold leaving
 have hO : mD (iJ (CXe P w) P w K mg base N fr qual scope f cd cl A outer s H E) := ⟨rfl, rfl⟩
 refine wpAny_bind (nZ hO I fl fun s2 I2 f2 => nF I2 f2 fun s3 I3 f3 => ?_)
 obtain ⟨vs, T, a, b, c, _⟩ := f3.tb
 obtain ⟨fr', un, hok⟩ := rQ S C e0 I3
 have ne : ∀ c o, H' c = some o -> c ∉ aY fr cl := fun c o q z => by rw [fr' c z] at q; cases q
 refine ⟨e, C', od, _, rfl, I3.os, I3.bare, un, hok, by rw [eM (ne _ _ f3.tr)]; exact f3.tr, ⟨vs, T, a, b, fun t e1 => ⟨?_, (c t e1).2.1⟩⟩, q fr'⟩
 rw [eM]
 ·exact (c t e1).1
 ·intro z
  obtain ⟨o, v, q⟩ := C.celd t z
  exact absurd (Nat.lt_of_lt_of_le (e0.hok.lt q) (c t e1).2.1) (Nat.lt_irrefl _)
end
end L2
namespace L2
open PySem PySem.Spec PyProof.Rows
structure ClSt where
 name : Str
 qual : Str
 params : Arguments
 body : FuncBody
 scope : Scope
noncomputable def ClSt.fd (S : ClSt) (cl : List (Str × Addr)) (doc pm : Value) (c : Addr) (ct : Value) : FuncData :=
 { name := S.name, qualname := S.qual, params := S.params, body := S.body, scope := S.scope, globals := mainGlobals, closure := cl, defaults := .none, kwdefaults := .none, doc := doc, pyModule := pm, annotations := none, code := .ref c, closureTuple := ct, builtins := builtinsNs }
abbrev ClSt.obj (S : ClSt) (cl : List (Str × Addr)) (doc pm : Value) (c : Addr) (ct : Value) : Obj := { cls := .type "function", data := .func (S.fd cl doc pm c ct) }
section
variable {P : Program} {w : World} {K : Frag} {mg : Str -> Option Value} {base : Heap} {N ps fr : List Str} {S : ClSt} {f c : Addr} {cl : List (Str × Addr)} {A : Around} {outer : List Env} {s : Shared} {H : Hp} {E : XK} {Q : VK} {cvs vs : List V} {us : List Value} {args : Args} {doc pm ct : Value} {k : Nat}
theorem xN (Sc : CloScope N ps fr S.scope) : ∀ y ∈ ps.zip us, S.scope.names.lookup y.1 = some .local \/ S.scope.names.lookup y.1 = some .cell := fun ⟨n, v⟩ hy => Sc.par n (List.of_mem_zip hy).1
theorem aDJ {h : Heap} (hok : HOk P w H h) (Sc : CloScope N ps fr S.scope) (C : CapAt H fr cl cvs) {cm : Str -> Option Value} (hcm : ∀ n c, cl.lookup n = some c -> ∃ v u, (∃ o, H c = some (eN c o v)) /\ bC v u /\ cm n = some u /\ h.IsCell c (some u)) : ClAt h S.scope cl cm where
 cell := fun n c e => by
  obtain ⟨v, u, _, _, e1, z⟩ := hcm n c e
  rw [e1]; exact z
 inj := C.inj
 off := fun y hy hc => by
  cases e : cl.lookup y.1 with
  | none => rfl
  | some c => exact absurd (C.only _ _ e) (Sc.off y hy hc)
theorem aDK {body : List Stmt} (hb : S.body = .stmts body) (hf : H f = some (FnO f (S.obj cl doc pm c ct))) (hc : H c = some (.cod S.qual)) (Sc : CloScope N ps fr S.scope) (C : CapAt H fr cl cvs) (hr : Room (k + 1) A)
  (e0 : Env0 P w K mg base A outer s H) (hbi : BindsTo s (S.fd cl doc pm c ct) args (ps.zip us)) (r : bN vs us) (hl : vs.length = ps.length)
  (hbody : Room k (A.deeper (cP S.qual S.scope s.heap.objs.size f (.ref c) cl)) -> ∃ t, PSs ((iJ (CXe P w) P w K mg base N fr S.qual S.scope f (.ref c) cl A outer s H E).fly fun c e H' => (∀ a ∈ aY fr cl, H' a = none) -> E c e (shw (aY fr cl) H H')) body t /\
   t { nx := fun _ H' => (∀ a ∈ aY fr cl, H' a = none) -> Q .non (shw (aY fr cl) H H'), rt := fun v H' => (∀ a ∈ aY fr cl, H' a = none) -> Q v (shw (aY fr cl) H H') } (start N (vs ++ cvs)) (hid (aY fr cl) H)) :
  codeAny (model P w) A (.call (.ref f) args) (CR (CXe P w) outer P w H s Q E) s := by
 have lim : s.heap.NoLimit := e0.mod.nolimit.keeps fun b o e => (e0.bs b o e).1
 obtain ⟨cm, hcm⟩ := aAF e0.hok C
 have hcr : s.heap.CodeRec (.ref c) S.qual := e0.hok c _ hc
 refine codeAny_call_function hr.depth (FnO.get e0.hok hf) rfl Sc.co Sc.gen hb hcr (hbi _ _ _ _ ?_)
 refine aAE (cm := cm) Sc.kind (aDJ e0.hok Sc C hcm) (xN Sc) fun s1 x => ?_
 refine ⟨lim.keeps x.ic.keep, codeAny_func ?_⟩
 obtain ⟨t, ht, hq⟩ := hbody (hr.deeper _)
 have I : Inv (iJ (CXe P w) P w K mg base N fr S.qual S.scope f (.ref c) cl A outer s H E) [] (start N (vs ++ cvs)) (hid (aY fr cl) H) s1 := sZ Sc C hr.hd e0 hl r hcm x
 have ht' := ht.unfly fun _ _ z => s9 Sc C e0 z
 refine wpAny_mono (ht' [] s1 _ _ _ I hq) (fun fl s' hs => ?_) fun e s' hs => hs
 have fin : ∀ {σ' : St} {H' : Hp} {v : V} {u : Value}, Inv (iJ (CXe P w) P w K mg base N fr S.qual S.scope f (.ref c) cl A outer s H E) [] σ' H' s' -> bC v u -> ((∀ a ∈ aY fr cl, H' a = none) -> Q v (shw (aY fr cl) H H')) -> CE outer P w H s Q u s' :=
  fun {σ' H' v u} J rv q => by
   obtain ⟨hn, un, hok⟩ := rQ Sc C e0 J
   exact ⟨v, _, J.os, J.bare, un, hok, rv, q hn⟩
 cases fl with
 | ret u =>
  obtain ⟨v, σ', H', J, rv, q⟩ := hs
  exact fin J rv q
 | next =>
  obtain ⟨σ', H', J, q⟩ := hs
  exact fin (v := V.non) (u := Value.none) J rfl q
 | brk =>
  obtain ⟨_, _, _, q⟩ := hs
  exact False.elim q
 | cont =>
  obtain ⟨_, _, _, q⟩ := hs
  exact False.elim q
theorem aFB {body : Expr} (hb : S.body = .expr body) (hf : H f = some (FnO f (S.obj cl doc pm c ct))) (hc : H c = some (.cod S.qual)) (Sc : CloScope N ps fr S.scope) (C : CapAt H fr cl cvs) (hr : Room (k + 1) A)
  (e0 : Env0 P w K mg base A outer s H) (hbi : BindsTo s (S.fd cl doc pm c ct) args (ps.zip us)) (r : bN vs us) (hl : vs.length = ps.length)
  (hbody : Room k (A.deeper (cP S.qual S.scope s.heap.objs.size f (.ref c) cl)) -> ∃ t, PE ((iJ (CXe P w) P w K mg base N fr S.qual S.scope f (.ref c) cl A outer s H E).fly fun c e H' => (∀ a ∈ aY fr cl, H' a = none) -> E c e (shw (aY fr cl) H H')) body t /\
   t (start N (vs ++ cvs)) (hid (aY fr cl) H) fun v H' => (∀ a ∈ aY fr cl, H' a = none) -> Q v (shw (aY fr cl) H H')) :
  codeAny (model P w) A (.call (.ref f) args) (CR (CXe P w) outer P w H s Q E) s := by
 have lim : s.heap.NoLimit := e0.mod.nolimit.keeps fun b o e => (e0.bs b o e).1
 obtain ⟨cm, hcm⟩ := aAF e0.hok C
 have hcr : s.heap.CodeRec (.ref c) S.qual := e0.hok c _ hc
 refine PySem.W.kla_callFunE hr.depth (FnO.get e0.hok hf) rfl Sc.co Sc.gen hb hcr (hbi _ _ _ _ ?_)
 refine aAE (cm := cm) Sc.kind (aDJ e0.hok Sc C hcm) (xN Sc) fun s1 x => ?_
 refine ⟨lim.keeps x.ic.keep, PySem.W.kla_codeExpr ?_⟩
 obtain ⟨t, ht, hq⟩ := hbody (hr.deeper _)
 have I : Inv (iJ (CXe P w) P w K mg base N fr S.qual S.scope f (.ref c) cl A outer s H E) [] (start N (vs ++ cvs)) (hid (aY fr cl) H) s1 := sZ Sc C hr.hd e0 hl r hcm x
 refine wpAny_mono (ht [] s1 _ _ _ (I.wish _) hq) (fun u s' hs => ?_) fun e s' hs => s9 Sc C e0 hs
 obtain ⟨v, H', J, rv, q⟩ := hs
 obtain ⟨hn, un, hok⟩ := rQ Sc C e0 J.unwish
 exact ⟨v, _, J.os, J.bare, un, hok, rv, q hn⟩
end
end L2
namespace L2
open PySem PySem.Spec PyProof.Rows
theorem aBR {env : Env} : ∀ (names : List (Str × NameKind)) (acc : List (Str × Addr)), (∀ x ∈ names, x.2 = .free -> ∃ c, env.cells.lookup x.1 = some c) ->
  (∀ x c, acc.lookup x = some c -> env.cells.lookup x = some c) ->
  ∃ cl, (forIn names acc fun x r => (if (x.2 == NameKind.free) = true then (do let a <- cellOf env x.1; pure (ForInStep.yield ((x.1, a) :: r))) else pure (ForInStep.yield r)) : Sem (List (Str × Addr))) = pure cl /\
   (∀ x c, cl.lookup x = some c -> env.cells.lookup x = some c) /\ (∀ x ∈ names, x.2 = .free -> ∃ c, cl.lookup x.1 = some c) /\ (∀ x c, acc.lookup x = some c -> ∃ c', cl.lookup x = some c') /\
   (∀ x c, cl.lookup x = some c -> (∃ c', acc.lookup x = some c') \/ (x, NameKind.free) ∈ names) := by
 intro names
 induction names with
 | nil => intro acc _ h; exact ⟨acc, rfl, h, fun x hx => absurd hx (by simp), fun x c e => ⟨c, e⟩, fun x c e => .inl ⟨c, e⟩⟩
 | cons x r ih =>
  intro acc hf h
  obtain ⟨n, k⟩ := x
  by_cases hk : k = .free
  ·subst hk
   obtain ⟨c, hc⟩ := hf (n, .free) List.mem_cons_self rfl
   have hc : env.cells.lookup n = some c := hc
   obtain ⟨cl, e1, e2, e3, e4, e5⟩ := ih ((n, c) :: acc) (fun y hy => hf y (List.mem_cons_of_mem _ hy)) (fun y d e => by
    rw [List.lookup_cons] at e
    cases q : y == n with
    | true => rw [q] at e; cases e; have := eq_of_beq q; subst this; exact hc
    | false => rw [q] at e; exact h y d e)
   refine ⟨cl, ?_, e2, fun y hy hyf => ?_, fun y d e => ?_, fun y d e => ?_⟩
   ·rw [List.forIn_cons]
    simp only [beq_self_eq_true, if_true]
    unfold cellOf
    simp only [hc, pure_bind]
    exact e1
   ·rcases List.mem_cons.mp hy with z | z
    ·subst z
     exact e4 n c (by rw [List.lookup_cons]; simp)
    ·exact e3 y z hyf
   ·by_cases q : y = n
    ·subst q; exact e4 y c (by rw [List.lookup_cons]; simp)
    ·exact e4 y d (by rw [List.lookup_cons, beq_false_of_ne q]; exact e)
   ·rcases e5 y d e with ⟨c', z⟩ | z
    ·by_cases q : y = n
     ·subst q; exact .inr List.mem_cons_self
     ·rw [List.lookup_cons, beq_false_of_ne q] at z
      exact .inl ⟨c', z⟩
    ·exact .inr (List.mem_cons_of_mem _ z)
  ·obtain ⟨cl, e1, e2, e3, e4, e5⟩ := ih acc (fun y hy => hf y (List.mem_cons_of_mem _ hy)) h
   refine ⟨cl, ?_, e2, fun y hy hyf => ?_, e4, fun y d e => (e5 y d e).imp id fun z => List.mem_cons_of_mem _ z⟩
   ·rw [List.forIn_cons]
    have : (k == NameKind.free) = false := by simpa using hk
    simp only [this, Bool.false_eq_true, if_false, pure_bind]
    exact e1
   ·rcases List.mem_cons.mp hy with z | z
    ·subst z; exact absurd hyf hk
    ·exact e3 y z hyf
structure ClOf (cells : List (Str × Addr)) (sc : Scope) (cl : List (Str × Addr)) : Prop where
 of : ∀ x c, cl.lookup x = some c -> cells.lookup x = some c
 all : ∀ x ∈ sc.names, x.2 = .free -> ∃ c, cl.lookup x.1 = some c
 only : ∀ x c, cl.lookup x = some c -> (x, NameKind.free) ∈ sc.names
theorem xO {env : Env} {scope : Scope} (hf : ∀ x ∈ scope.names, x.2 = .free -> ∃ c, env.cells.lookup x.1 = some c) :
  ∃ cl, closureFor scope env = pure cl /\ ClOf env.cells scope cl := by
 obtain ⟨cl, e1, e2, e3, _, e5⟩ := aBR scope.names [] hf (fun x c e => by simp at e)
 refine ⟨cl, ?_, e2, e3, fun x c e => ?_⟩
 ·unfold closureFor
  first
   | exact e1
   | (rw [<- e1]; rfl)
   | (simp only [bind_pure]; exact e1)
 ·rcases e5 x c e with ⟨c', z⟩ | z
  ·simp at z
  ·exact z
theorem aDL {pos : Pos} {r : List Value} (l : List Value) (h : TriplesOk l) : codeAmong pos (l ++ r) = (codeAmong pos l).or (codeAmong pos r) := by
 fun_induction TriplesOk l with
 | case1 => simp [codeAmong]
 | case2 a t b u x rest ih =>
  simp only [List.cons_append, codeAmong]
  split
  · rfl
  · exact ih h
 | case3 l h1 h2 => exact h.elim
structure Tb (mg : Str -> Option Value) (base : Heap) (c0 P0 : Addr) : Prop where
 hd : PySem.W.CodeHd base c0 P0
 bt : ∃ bm ob, mg "__builtins__" = some (.ref bm) /\ bm ≠ builtinsNs /\ base.get? bm = some ob /\ ob.cls = .type "module" /\ ob.dict = some builtinsNs /\ ob.data = .plain
section
variable {X : Cx} {pins : List (Addr × Obj)} {σ : St} {H : Hp} {s : Shared} {c0 P0 : Addr} {qs : List (Pos × Str)} {pos : Pos} {q : Str}
theorem aDM {ps : Array Value} {c : Addr} {h h' : Heap} (hk : HOk X.prog X.w H h) (hP : H P0 = some (.tbl qs)) (hps : h.get? P0 = some (PySem.W.tabObj ps)) (ht : TriplesOk ps.toList) (hall : ∀ p ∈ qs, codeAmong p.1 ps.toList = none \/ ∃ c, codeAmong p.1 ps.toList = some (.ref c) /\ H c = some (.cod p.2))
  (hu : ∀ p ∈ qs, p.1.line = pos.line -> p.1.col = pos.col -> p.2 = q) (hnf : codeAmong pos ps.toList = none) (hn : H c = none) (hx : Heap.ExtBut P0 h h') (hcr : h'.CodeRec (.ref c) q) (hP' : h'.get? P0 = some (PySem.W.tabObj (ps ++ #[rawInt pos.line, rawInt pos.col, .ref c]))) :
  HOk X.prog X.w (upd H c (.cod q)) h' := fun b u e => by
 have hcP : P0 ≠ c := fun z => by rw [<- z, hP] at hn; cases hn
 by_cases hb : b = c
 ·subst hb; rw [aW] at e; cases e; exact hcr
 ·rw [aG hb] at e
  by_cases hbP : b = P0
  ·subst hbP
   rw [hP] at e; cases e
   refine ⟨_, hP', ?_, fun p hp => ?_⟩
   ·rw [Array.toList_append]; exact TriplesOk_snoc _ _ _ _ ht
   ·rw [Array.toList_append, aDL _ ht]
    rcases hall p hp with z | ⟨d, z, zd⟩
    ·rw [z]
     show (codeAmong p.1 [rawInt pos.line, rawInt pos.col, .ref c]) = none \/ _
     by_cases hq : p.1.line = pos.line /\ p.1.col = pos.col
     ·refine .inr ⟨c, ?_, ?_⟩
      ·show codeAmong p.1 [rawInt pos.line, rawInt pos.col, .ref c] = _
       rw [<- hq.1, <- hq.2]
       exact codeAmong_snoc [] trivial rfl
      ·rw [hu p hp hq.1 hq.2]; exact aW
     ·refine .inl ?_
      simp only [codeAmong, rawInt]
      rw [if_neg]
      simp only [Bool.and_eq_true, beq_iff_eq]
      intro z2
      exact hq ⟨by omega, by omega⟩
    ·refine .inr ⟨d, by rw [z]; rfl, ?_⟩
     rw [aG (bG zd hn)]; exact zd
  ·refine (hk b u e).stay (fun d v hd r => hx d v ?_ r) (fun d r => by rw [aG (bG r hn)]; exact r) (fun d _ r => by rw [aG (bG r hn)]; exact r) fun d _ r => by rw [aG (bG r hn)]; exact r
   rcases hd with z | z
   ·rw [z]; exact hbP
   ·intro z2; rw [z2, hP] at z; cases z
def Mkd (H : Hp) (q : Str) (c : Addr) (H1 : Hp) : Prop := (H c = some (.cod q) /\ H1 = H) \/ (H c = none /\ H1 = upd H c (.cod q))
theorem aAG {S : ClSt} {M : Model} {A : Around} {E : Value -> Shared -> Prop} {Q : Value -> Shared -> Prop} {firstLine : Nat} (I : Inv X pins σ H s) (hcode : X.env.code = .ref c0) (T : Tb X.mg X.base c0 P0) (hP : H P0 = some (.tbl qs)) (hq : (pos, S.qual) ∈ qs)
    (hu : ∀ p ∈ qs, p.1.line = pos.line -> p.1.col = pos.col -> p.2 = S.qual) (hfree : ∀ x ∈ S.scope.names, x.2 = .free -> ∃ c, X.env.cells.lookup x.1 = some c)
    (h : ∀ f c cl doc pm ct H1 s', Mkd H S.qual c H1 -> H1 f = none -> ClOf X.env.cells S.scope cl -> Inv X pins σ (upd H1 f (FnO f (S.obj cl doc pm c ct))) s' -> Q (.ref f) s') :
    wpAny M A (makeFunction S.name S.qual S.params S.body S.scope X.env [] [] [] pos firstLine) Q E s := by
  obtain ⟨cl, hcl, hco⟩ := xO hfree
  obtain ⟨ps, hps, ht, hall⟩ := (show cE X.prog X.w H s.heap P0 (.tbl qs) from I.hok P0 _ hP)
  have C : PySem.W.CodeHd s.heap c0 P0 := T.hd.keeps I.bk
  have hg : s.heap.Ns mainGlobals X.mg := I.mod.glob.keeps I.bk
  have hgP : mainGlobals ≠ P0 := fun z => by
    obtain ⟨o, es, ep, e, hd, _⟩ := hg
    rw [z, hps] at e; cases e; cases hd
  obtain ⟨bm, ob, b1, b2, b3, b4, b5, b6⟩ := T.bt
  have b3' := I.bk _ _ b3
  have hbP : bm ≠ P0 := fun z => by rw [z, hps] at b3'; cases b3'; cases b4
  have hbG : bm ≠ mainGlobals := fun z => by
    obtain ⟨o, es, ep, e, hd, _⟩ := hg
    rw [z, e] at b3'; cases b3'; rw [hd] at b6; cases b6
  have hB : s.heap.BuiltinsAt X.mg P0 := ⟨bm, ob, b1, b2, hbG, hbP, b3', b4, b5, b6⟩
  rcases hall _ hq with hnf | ⟨c, hf, hc⟩
  · have fin : ∀ (c' : Addr) (ctv doc : Value) (h' : Heap) (tk : Tok), Heap.ExtBut P0 s.heap h' -> s.heap.objs.size <= c' -> c' < h'.objs.size -> h'.CodeRec (.ref c') S.qual -> h'.get? P0 = some (PySem.W.tabObj (ps ++ #[rawInt pos.line, rawInt pos.col, .ref c'])) ->
        Q (.ref h'.objs.size) { s with heap := h'.push (S.obj cl doc ((X.mg "__name__").getD .none) c' ctv), toks := tk } := by
      intro c' ctv doc h' tk hx hge hlt hrec htb
      have hn : H c' = none := I.hok.fresh hge
      have hok1 : HOk X.prog X.w (upd H c' (.cod S.qual)) h' := aDM I.hok hP hps ht hall hu hnf hn hx hrec htb
      have hnf' : (upd H c' (.cod S.qual)) h'.objs.size = none := hok1.fresh (Nat.le_refl _)
      refine h h'.objs.size c' cl doc ((X.mg "__name__").getD .none) ctv _ _ (.inr ⟨hn, rfl⟩) hnf' hco ?_
      have ne : ∀ b o, H b = some o -> b ≠ c' /\ b ≠ h'.objs.size := fun b o e => ⟨bG e hn, fun z => by
        rw [z] at e
        rw [aG (Nat.ne_of_gt hlt), e] at hnf'; cases hnf'⟩
      have nP : ∀ b, H b = none -> b ≠ P0 := fun b n z => by rw [z, hP] at n; cases n
      refine I.un ⟨fun b o e n _ _ => Heap.get?_push_of_some _ (hx b o (nP b n) e), fun b o e n _ _ => ⟨o.slots, Heap.get?_push_of_some _ (hx b o (nP b n) e)⟩, fun b o e n _ => ?_, fun b o e _ => ?_, fun b xs e => ?_, fun b o u e => ?_, fun b qs e => ?_⟩ ?_
      · have hb := Heap.lt_size e
        rw [aG (Nat.ne_of_lt (Nat.lt_of_lt_of_le hb (Nat.le_trans hge (Nat.le_of_lt hlt)))), aG (Nat.ne_of_lt (Nat.lt_of_lt_of_le hb hge))]; exact n
      · by_cases z : b = P0
        · subst z; exact ⟨_, Heap.get?_push_of_some _ htb⟩
        · exact ⟨o, Heap.get?_push_of_some _ (hx b o z e)⟩
      · rw [aG (ne b _ e).2, aG (ne b _ e).1]; exact e
      · rw [aG (ne b _ e).2, aG (ne b _ e).1]; exact e
      · rw [aG (ne b _ e).2, aG (ne b _ e).1]; exact e
      · exact hok1.laid (fun b u e => Heap.get?_push_of_some _ e) (Nat.le_refl _) (FnO.ok (Heap.get?_push_size _ rfl))
    obtain ⟨name, qual, params, body, scope⟩ := S
    cases body with
    | stmts body => exact PySem.W.makeFunction_K hcl I.ok.glob hg hcode C hps ht hnf hgP hB fin
    | expr body => exact PySem.W.kla_makeFunction hcl I.ok.glob hg hcode C hps ht hnf hgP hB fun c' ctv h' tk => fin c' ctv .none h' tk
  · have fin : ∀ (ctv doc : Value) (h' : Heap) (tk : Tok), (∀ b o, s.heap.get? b = some o -> h'.get? b = some o) -> s.heap.objs.size <= h'.objs.size ->
        Q (.ref h'.objs.size) { s with heap := h'.push (S.obj cl doc ((X.mg "__name__").getD .none) c ctv), toks := tk } := by
      intro ctv doc h' tk hk hsz
      refine h h'.objs.size c cl doc ((X.mg "__name__").getD .none) ctv H _ (.inl ⟨hc, rfl⟩) (I.hok.fresh hsz) hco ?_
      exact I.laid (fun b u e => Heap.get?_push_of_some _ (hk b u e)) hsz (FnO.ok (Heap.get?_push_size _ rfl))
    obtain ⟨name, qual, params, body, scope⟩ := S
    cases body with
    | stmts body => exact PySem.W.makeFunction_hit hcl I.ok.glob hg hcode C hps ht hf hB fin
    | expr body => exact PySem.W.kla_makeFunctionHit hcl I.ok.glob hg hcode C hps ht hf hB fun ctv h' tk => fin ctv .none h' tk
def tMk (cells : List (Str × Addr)) (S : ClSt) (P0 : Addr) (qs : List (Pos × Str)) : TE := fun σ H Q => H P0 = some (.tbl qs) /\ ∀ f c cl doc pm ct H1, Mkd H S.qual c H1 -> H1 f = none -> ClOf cells S.scope cl -> Q (.ref f) (upd H1 f (FnO f (S.obj cl doc pm c ct)))
theorem aKN {i : Nat} {x : Str} {params : Arguments} {body : List Stmt} {scope : Scope} (hcode : X.env.code = .ref c0) (T : Tb X.mg X.base c0 P0) (hqn : qualnameIn X.env x x = q) (hq : (pos, q) ∈ qs)
  (hu : ∀ p ∈ qs, p.1.line = pos.line -> p.1.col = pos.col -> p.2 = q) (hfree : ∀ y ∈ scope.names, y.2 = .free -> X.env.kindOf y.1 = some .cell \/ X.env.kindOf y.1 = some .free)
  (hd0 : params.defaults = []) (hk0 : params.kw_defaults = []) (ha : annTrees params none X.env = [])
  (hN : X.N.Nodup) (hi : X.N[i]? = some x) (hx : Loc X.env.scope x) (hf : X.fn x = true \/ X.env.scope.names.lookup x = some .local := by exact .inl rfl) :
  PS X (.FunctionDef x params body [] none [] scope none x pos) (kS (tMk X.env.cells ⟨x, q, params, .stmts body, scope⟩ P0 qs) (jL i)) := by
 intro pins s σ H D I h
 obtain ⟨hP, h⟩ := h
 refine PySem.W.nestDef_K hd0 hk0 ha ?_
 rw [hqn]
 refine aAG (S := ⟨x, q, params, .stmts body, scope⟩) I hcode T hP hq hu (fun y hy hyf => I.ok.has _ (hfree y hy hyf)) fun f c cl doc pm ct H1 s' hm hn hc I' => ?_
 exact nX I' hN hi hx (v := .ref f) rfl (fun s'' I'' => ⟨_, _, I'', h f c cl doc pm ct H1 hm hn hc⟩) hf
theorem aKO {params : Arguments} {body : Expr} {scope : Scope} (hcode : X.env.code = .ref c0) (T : Tb X.mg X.base c0 P0) (hqn : X.env.qual ++ ("<lambda>" : Str) = q) (hq : (pos, q) ∈ qs)
  (hu : ∀ p ∈ qs, p.1.line = pos.line -> p.1.col = pos.col -> p.2 = q) (hfree : ∀ y ∈ scope.names, y.2 = .free -> X.env.kindOf y.1 = some .cell \/ X.env.kindOf y.1 = some .free)
  (hdef : defaultsOf params X.env = ([], [])) :
  PE X (.Lambda params body scope pos) (tMk X.env.cells ⟨"<lambda>", q, params, .expr body, scope⟩ P0 qs) := by
 intro pins s σ H Q I h
 obtain ⟨hP, h⟩ := h
 refine PySem.W.kla_eval hdef ?_
 rw [hqn]
 exact aAG (S := ⟨"<lambda>", q, params, .expr body, scope⟩) I hcode T hP hq hu (fun y hy hyf => I.ok.has _ (hfree y hy hyf)) fun f c cl doc pm ct H1 s' hm hn hc I' => ⟨.ref f, _, I', rfl, h f c cl doc pm ct H1 hm hn hc⟩
end
end L2
namespace L2
open PySem PySem.Spec PyProof.Rows
abbrev Cv := List (Addr × Obj × V)
noncomputable def pub (cv : Cv) (H : Hp) : Hp := fun b => match cv.lookup b with
 | some p => some (eN b p.1 p.2)
 | none => H b
noncomputable def dA (cv : Cv) : List Addr := cv.map (·.1)
theorem gX {cv : Cv} {b : Addr} : b ∈ dA cv ↔ ∃ p, cv.lookup b = some p := by
 unfold dA
 induction cv with
 | nil => simp
 | cons a r ih =>
  obtain ⟨x, p⟩ := a
  rw [List.map_cons, List.mem_cons, ih, List.lookup_cons]
  by_cases h : b = x
  ·subst h; simp
  ·rw [beq_false_of_ne h]
   simp [h]
theorem o8 {cv : Cv} {H : Hp} {b : Addr} {p : Obj × V} (h : cv.lookup b = some p) : pub cv H b = some (eN b p.1 p.2) := by unfold pub; rw [h]
theorem eO {cv : Cv} {H : Hp} {b : Addr} (h : b ∉ dA cv) : pub cv H b = H b := by
 unfold pub
 cases e : cv.lookup b with
 | none => rfl
 | some p => exact absurd (gX.mpr ⟨p, e⟩) h
theorem j9 {cv : Cv} {H : Hp} (hd : ∀ b ∈ dA cv, H b = none) : aR H (pub cv H) := fun b o e => by
 rw [eO fun z => by rw [hd b z] at e; cases e]; exact e
theorem aGK {P : Program} {w : World} {fs : List Addr} {cv : Cv} {H H1 : Hp} {h h' : Heap} (hd : ∀ b ∈ dA cv, H b = none) (hk : HOk P w (pub cv H) h) (un : Un fs [] (pub cv H) H1 h h') (hk1 : HOk P w H1 h') :
  Un fs [] H (hid (dA cv) H1) h h' /\ HOk P w (hid (dA cv) H1) h' := by
 have inn : ∀ b, b ∈ dA cv -> ∃ o v, h.get? b = some o /\ h'.get? b = some o /\ H1 b = some (eN b o v) := fun b hb => by
  obtain ⟨⟨o, v⟩, e⟩ := gX.mp hb
  have z := o8 (H := H) e
  have z1 := un.frzs b o _ z
  exact ⟨o, v, (eN.get hk z).1, (eN.get hk1 z1).1, z1⟩
 have out : ∀ b u, H b = some u -> b ∉ dA cv := fun b u e z => by rw [hd b z] at e; cases e
 refine ⟨⟨fun b o e n h1 h2 => ?_, fun b o e n h1 h2 => ?_, fun b o e n h2 => ?_, un.there, fun b xs q => ?_, fun b o u q => ?_, fun b ps q => ?_⟩, fun b u e => ?_⟩
 ·by_cases hb : b ∈ dA cv
  ·obtain ⟨o', v, q1, q2, _⟩ := inn b hb
   rw [e] at q1; cases q1; exact q2
  ·exact un.keep b o e (by rw [eO hb]; exact n) h1 h2
 ·by_cases hb : b ∈ dA cv
  ·obtain ⟨o', v, q1, q2, _⟩ := inn b hb
   rw [e] at q1; cases q1; exact ⟨o.slots, q2⟩
  ·exact un.slot b o e (by rw [eO hb]; exact n) h1 h2
 ·by_cases hb : b ∈ dA cv
  ·exact nH hb
  ·rw [bW hb]; exact un.free b o e (by rw [eO hb]; exact n) h2
 ·have hb := out b _ q
  rw [bW hb]; exact un.tups b xs (by rw [eO hb]; exact q)
 ·have hb := out b _ q
  rw [bW hb]; exact un.frzs b o u (by rw [eO hb]; exact q)
 ·have hb := out b _ q
  rw [bW hb]; exact un.tbls b ps (by rw [eO hb]; exact q)
 ·obtain ⟨e1, hb⟩ := n6 e
  have ne : ∀ c o, H1 c = some o -> (∀ o' v, o ≠ eN c o' v) -> c ∉ dA cv := fun c o q n z => by
   obtain ⟨o', v, _, _, z1⟩ := inn c z
   rw [q] at z1; cases z1; exact n o' v rfl
  exact (hk1 b u e1).stay (fun _ _ _ q => q) (fun c q => by rw [bW (ne c _ q fun _ _ z => nomatch z)]; exact q) (fun c _ q => by rw [bW (ne c _ q fun _ _ z => nomatch z)]; exact q) fun c _ q => by rw [bW (ne c _ q fun _ _ z => nomatch z)]; exact q
structure PubRel (X : Cx) (σ : St) (H : Hp) (js : List Nat) (cv : Cv) : Prop where
 at' : ∀ b o v, cv.lookup b = some (o, v) -> ∃ x j, j ∈ js /\ X.N[j]? = some x /\ X.env.cells.lookup x = some b /\ σ[j]? = some (some v)
 all : ∀ j ∈ js, ∃ x c o v, X.N[j]? = some x /\ X.env.cells.lookup x = some c /\ σ[j]? = some (some v) /\ cv.lookup c = some (o, v)
 free : ∀ b ∈ dA cv, H b = none
 inj : ∀ x y c, X.env.cells.lookup x = some c -> X.env.cells.lookup y = some c -> x = y
section
variable {X : Cx} {pins : List (Addr × Obj)} {σ : St} {H : Hp} {s : Shared}
def xP (X : Cx) (σ : St) (j : Nat) : Prop := ∃ x v, X.N[j]? = some x /\ X.env.kindOf x = some .cell /\ X.fn x = true /\ σ[j]? = some (some v)
theorem aDN (I : Inv X pins σ H s) : ∀ (js : List Nat), (∀ j ∈ js, xP X σ j) -> ∃ cv, PubRel X σ H js cv /\ ∀ b o v, cv.lookup b = some (o, v) -> (∃ u, s.heap.get? b = some o /\ o.data = .cell (some u) /\ bC v u) /\ X.s₀.heap.objs.size <= b /\ ∃ x, X.env.cells.lookup x = some b
 | [], _ => ⟨[], ⟨fun b o v e => by simp at e, fun j hj => by simp at hj, fun b hb => by simp [dA] at hb, I.ok.inj⟩, fun b o v e => by simp at e⟩
 | j :: js, hj => by
  obtain ⟨cv, R, ok⟩ := aDN I js fun j' h' => hj j' (List.mem_cons_of_mem _ h')
  obtain ⟨x, v, hN, hk, hf, hv⟩ := hj j List.mem_cons_self
  obtain ⟨m, hn, hl⟩ := I.loc
  obtain ⟨u, r, l⟩ := hl j x v hN hv (.inr (.inl hk))
  rcases l with ⟨hk', _⟩ | ⟨_, c, hc, o, ho, hd⟩
  ·rw [hk] at hk'; cases hk'
  ·have hcab := I.ok.cab x c hf hc
   by_cases hin : c ∈ dA cv
   ·obtain ⟨⟨o', v'⟩, e⟩ := gX.mp hin
    obtain ⟨x', j', hj', hN', hc', hv'⟩ := R.at' c o' v' e
    have hxx : x = x' := I.ok.inj x x' c hc hc'
    subst hxx
    refine ⟨cv, ⟨fun b o v e => ?_, fun k hk => ?_, R.free, R.inj⟩, ok⟩
    ·obtain ⟨x, j, h1, h2⟩ := R.at' b o v e
     exact ⟨x, j, List.mem_cons_of_mem _ h1, h2⟩
    ·rcases List.mem_cons.mp hk with z | z
     ·subst z
      obtain ⟨u2, r2, l2⟩ := hl j' x v' hN' hv' (.inr (.inl (by assumption)))
      obtain ⟨⟨u3, q1, q2, q3⟩, _⟩ := ok c o' v' e
      rw [ho] at q1; cases q1
      rw [hd] at q2
      have : u = u3 := by cases q2; rfl
      subst this
      have hvv : v = v' := bC.inj r q3
      subst hvv
      exact ⟨x, c, _, v, hN, hc, hv, e⟩
     ·exact R.all k z
   ·refine ⟨(c, o, v) :: cv, ⟨fun b o' v' e => ?_, fun k hk => ?_, fun b hb => ?_, R.inj⟩, fun b o' v' e => ?_⟩
    ·rw [List.lookup_cons] at e
     by_cases hb : b = c
     ·subst hb
      simp only [beq_self_eq_true] at e
      cases e
      exact ⟨x, j, List.mem_cons_self, hN, hc, hv⟩
     ·rw [beq_false_of_ne hb] at e
      obtain ⟨x, j, h1, h2⟩ := R.at' b o' v' e
      exact ⟨x, j, List.mem_cons_of_mem _ h1, h2⟩
    ·rcases List.mem_cons.mp hk with z | z
     ·subst z
      exact ⟨x, c, o, v, hN, hc, hv, by rw [List.lookup_cons]; simp⟩
     ·obtain ⟨x', c', o', v', h1, h2, h3, h4⟩ := R.all k z
      refine ⟨x', c', o', v', h1, h2, h3, ?_⟩
      rw [List.lookup_cons, beq_false_of_ne (show c' ≠ c from fun z => by rw [z] at h4; exact hin (gX.mpr ⟨_, h4⟩))]; exact h4
    ·have hb' : b = c \/ b ∈ dA cv := by simpa [dA] using hb
     rcases hb' with z | z
     ·subst z; exact I.freeC x b hc
     ·exact R.free b z
    ·rw [List.lookup_cons] at e
     by_cases hb : b = c
     ·subst hb
      simp only [beq_self_eq_true] at e
      cases e
      exact ⟨⟨u, ho, hd, r⟩, hcab, x, hc⟩
     ·rw [beq_false_of_ne hb] at e
      exact ok b o' v' e
theorem aHT (I : Inv X pins σ H s) {js : List Nat} {cv : Cv} (R : PubRel X σ H js cv) (ok : ∀ b o v, cv.lookup b = some (o, v) -> (∃ u, s.heap.get? b = some o /\ o.data = .cell (some u) /\ bC v u) /\ X.s₀.heap.objs.size <= b /\ ∃ x, X.env.cells.lookup x = some b) :
  Env0 X.prog X.w X.K X.mg X.base X.A X.stack s (pub cv H) where
 frames := I.ok.frames
 mod := I.ok.mod
 bs := fun b o e => ⟨(I.bs b o e).1, by
  rw [eO]
  ·exact (I.bs b o e).2
  ·intro z
   obtain ⟨⟨o', v⟩, q⟩ := gX.mp z
   have h1 := (ok b o' v q).2.1
   have h2 := Heap.lt_size e
   exact absurd (Nat.lt_of_lt_of_le h2 (Nat.le_trans I.ok.bsz h1)) (Nat.lt_irrefl _)⟩
 bsz := Nat.le_trans I.ok.bsz I.sz
 funs := I.stack
 frf := fun b hb => by
  rw [eO]
  ·exact I.stkFree b hb
  ·intro z
   obtain ⟨⟨o', v⟩, q⟩ := gX.mp z
   obtain ⟨_, h1, x, hx⟩ := ok b o' v q
   rcases List.mem_cons.mp (I.stkSub b hb) with z2 | z2
   ·exact I.cne x b hx z2
   ·obtain ⟨_, o, ho, _⟩ := I.ok.funs.mem z2
    exact absurd (Nat.lt_of_lt_of_le (Heap.lt_size ho) h1) (Nat.lt_irrefl _)
 hok := fun b u e => by
  by_cases hb : b ∈ dA cv
  ·obtain ⟨⟨o, v⟩, q⟩ := gX.mp hb
   rw [o8 q] at e; cases e
   obtain ⟨⟨u, h1, h2, h3⟩, _⟩ := ok b o v q
   exact eN.ok h3 h1 h2
  ·rw [eO hb] at e
   exact (I.hok b u e).stay (fun _ _ _ q => q) (fun c q => j9 R.free _ _ q) (fun c _ q => j9 R.free _ _ q) fun c _ q => j9 R.free _ _ q
 bare := I.bare
def aDO (X : Cx) (js : List Nat) (sp : Sp) (E : XK) (t : TA) : TE := fun σ H Q => t σ H fun vs H1 => (∀ j ∈ js, xP X σ j) /\ ∀ cv, PubRel X σ H1 js cv -> sp vs (pub cv H1) (fun v H2 => Q v (hid (dA cv) H2)) (fun c e H2 => E c e (hid (dA cv) H2) /\ ∀ a, e = some a -> a ∉ dA cv)
theorem aKP {k : Nat} {x : Str} {ps : List Str} {sp : Sp} {E : XK} {p pos : Pos} {e : Expr} {es : List Expr} {t : TA} {js : List Nat} (C : Calls X.prog X.w X.K X.mg X.base (CXe X.prog X.w) k x ps sp) (hr : Room k X.A) (hg : Gl X x) (hx : lP (CXe X.prog X.w) X E) (ha : PA X (e :: es) t) (hdb : (x == ("__debug__" : Str)) = false := by decide)
  (he : starEach (e :: es) X.env = (false, eval e X.env) :: starEach es X.env := by rfl) (hpl : (backTo pos (starEach es X.env)).any (·.1) = false := by rfl) : PE X (.Call (.Name x p) (e :: es) [] pos) (aDO X js sp E t) := by
 obtain ⟨f, fd, F, b, m, kp⟩ := C
 intro pins s σ H Q I h
 refine wpAny_Call_Name_kw (j4 I hg m ?_ hdb)
 refine PySem.W.callWith_K (h₀ := X.base) I.ok.mod.kin kp (thn (ha pos pins s σ H _ I h) fun us s1 ⟨vs, H1, I1, r, hcs, q⟩ => ⟨I1.kIn, ?_⟩) he hpl
 obtain ⟨cv, R, ok⟩ := aDN I1 js hcs
 have hsp := q cv R
 have e0 := aHT I1 R ok
 have hl : us.length = ps.length := by rw [<- r.length]; exact F.len _ _ _ _ hsp
 have hb := b s1 us I1.kIn (by simpa using hl)
 rw [List.append_nil] at hb
 refine wpAny_call (codeAny_mono (F.run X.A X.stack s1 _ ⟨us, []⟩ us vs _ _ hr e0 hb r hsp) fun r' s' hq => ?_)
 cases r' with
 | error ev =>
  obtain ⟨e, C, od, H', rfl, os, bare, un, hok, hee, ⟨vs', T, q1, q2, q3⟩, q4, q5⟩ := hq
  obtain ⟨un', hok'⟩ := aGK R.free e0.hok un hok
  refine hx pins σ H1 s1 (.ref e) s' I1 ⟨e, C, od, hid (dA cv) H', rfl, os, bare, un', hok', ?_, ⟨vs', T, q1, q2, fun t e1 => ?_⟩, q4⟩
  ·rw [bW (q5 e rfl)]; exact hee
  ·exact ⟨hJ (q3 t e1).1, (q3 t e1).2⟩
 | ok fl =>
  cases fl with
  | ret u =>
   obtain ⟨v, H', os, bare, un, hok, rv, q'⟩ := hq
   obtain ⟨un', hok'⟩ := aGK R.free e0.hok un hok
   exact I1.after ⟨v, hid (dA cv) H', os, bare, un', hok', rv, q'⟩
  | next => exact False.elim hq
  | brk => exact False.elim hq
  | cont => exact False.elim hq
end
end L2
namespace L2
open PySem PySem.Spec PyProof.Rows
noncomputable def xQ (Ps : List Addr) (qs : List (Pos × Str)) : Hp := fun b => if b ∈ Ps then some (.tbl qs) else none
def xR (mg : Str -> Option Value) (h base : Heap) (T : Hp) (qs : List (Pos × Str)) (xs : List Str) : Prop :=
 ∀ x ∈ xs, ∃ c0 P0, T P0 = some (.tbl qs) /\ Tb mg base c0 P0 /\ ∀ f o fd, mg x = some (.ref f) -> h.get? f = some o -> o.data = .func fd -> fd.code = .ref c0
theorem aDP {P : Program} {w : World} {K : Frag} {mg mb : Str -> Option Value} {CX : CXT} {k : Nat} {fa a : Addr} {fd : FuncData} {x : Str} {s₁ : Shared} {vs : List Value} {ns : List Int} {qs : List (Pos × Str)} {xs : List Str} {tb : Str -> Addr × Addr}
  (hT : ∀ x ∈ xs, PySem.W.CodeHd s₁.heap (tb x).1 (tb x).2 /\ s₁.heap.get? (tb x).2 = some (PySem.W.tabObj #[])) (hlk : ∀ x ∈ xs, ∀ f o fd, mg x = some (.ref f) -> s₁.heap.get? f = some o -> o.data = .func fd -> fd.code = .ref (tb x).1)
  (hbt : ∃ bm ob, mg "__builtins__" = some (.ref bm) /\ bm ≠ builtinsNs /\ s₁.heap.get? bm = some ob /\ ob.cls = .type "module" /\ ob.dict = some builtinsNs /\ ob.data = .plain) (hNT : PySem.W.noTabs K = true)
  (KX : K.In s₁.heap) (hns : s₁.heap.Ns mainGlobals mg) (hb : s₁.heap.Ns builtinsNs mb) (hbb : ∀ x : Str, x ≠ "__name__" -> mb x = bootBuiltins x) (hlim : s₁.heap.NoLimit) (hg : s₁.gens = #[])
  (ha : s₁.heap.get? a = some { cls := .type "list", data := .seq vs.toArray }) (hi : IntsAre vs ns) (hl : ns.length <= sizeLine) (hr : Room k callerA)
  (F : ∀ (base : Heap) (T : Hp), K.In base -> base.Ns mainGlobals mg -> xR mg s₁.heap base T qs xs -> ∃ sp, FnOk P w K mg base CX k fa fd [x] sp /\ ∀ H : Hp, aR T H -> SqL K H a (ns.map V.int) -> sp [.ref a] H (fun v _ => v = .bl true) fun _ _ _ => False) (hbind : ∀ (s : Shared) (u : Value), BindsTo s fd ⟨[u], []⟩ [(x, u)])
  (hCX : ∀ H e s', CX [] H s₁ (fun _ _ _ => False) e s' -> False) :
  codeAny (model P w) callerA (.call (.ref fa) ⟨[.ref a], []⟩) (fun r s' => r = .ok (.ret (.bool true)) /\ OldK s₁.heap s'.heap /\ s'.os = s₁.os /\ AllBare s'.gens) s₁ := by
 have rv := vS hi
 have lenV := hi.length
 let Ps : List Addr := xs.map fun x => (tb x).2
 have hPs : ∀ b ∈ Ps, s₁.heap.get? b = some (PySem.W.tabObj #[]) /\ isCodeTable s₁.heap b := fun b hb => by
  obtain ⟨y, hy, rfl⟩ := List.mem_map.mp hb
  exact ⟨(hT y hy).2, ((hT y hy).1.tab (hT y hy).2).isCodeTable⟩
 have haP : a ∉ Ps := fun z => by have := (hPs a z).1; rw [ha] at this; cases this
 have hKP : ∀ b ∈ Ps, K.lookup b = none := fun b hb => by
  cases e : K.lookup b with
  | none => rfl
  | some o =>
   have e2 := KX b o e
   rw [(hPs b hb).1] at e2
   cases e2
   have h2 := List.all_eq_true.mp hNT (b, _) (PySem.W.mem_of_lookupK e)
   exact absurd (show false = true from h2) Bool.false_ne_true
 have core : ∀ H : Hp, (∀ b ∈ Ps, H b = some (.tbl qs)) -> (∀ b, H b ≠ none -> b = a \/ b ∈ Ps) -> (H a = none \/ ∃ o xs, H a = some (.frz o (.lst xs))) -> SqL K H a (ns.map V.int) -> HOk P w H s₁.heap -> (H a ≠ none -> K.lookup a = none) ->
   codeAny (model P w) callerA (.call (.ref fa) ⟨[.ref a], []⟩) (fun r s' => r = .ok (.ret (.bool true)) /\ OldK s₁.heap s'.heap /\ s'.os = s₁.os /\ AllBare s'.gens) s₁ := by
  intro H hP hA hO hS hok hK
  have base_of : ∀ {b : Addr} {o : Obj}, s₁.heap.get? b = some o -> H b = none -> (mX s₁.heap H).get? b = some o := fun e n => aER e n
  have free_of : ∀ {b : Addr} {o : Obj}, s₁.heap.get? b = some o -> (∀ vs, o.data ≠ .seq vs) -> o ≠ PySem.W.tabObj #[] -> H b = none := fun {b o} e d d2 => by
   cases q : H b with
   | none => rfl
   | some u =>
    rcases hA b (by rw [q]; simp) with e' | e'
    ·subst e'
     rw [ha] at e; cases e
     exact absurd rfl (d _)
    ·rw [(hPs b e').1] at e; cases e; exact absurd rfl d2
  have noA : ∀ {b : Addr} {o : Obj} {es : Array DictEntry} {ep : Nat}, s₁.heap.get? b = some o -> o.data = .dict es ep -> H b = none := fun {b o es ep} e d => free_of e (fun vs z => by rw [d] at z; cases z) fun z => by rw [z] at d; cases d
  have nsK : ∀ {b : Addr} {m : Str -> Option Value}, s₁.heap.Ns b m -> (mX s₁.heap H).Ns b m := fun {b m} ⟨o, es, ep, e, d, r⟩ => ⟨o, es, ep, base_of e (noA e d), d, r⟩
  have hKb : K.In (mX s₁.heap H) := fun b o e => base_of (KX b o e) (by
   cases q : H b with
   | none => rfl
   | some u =>
    rcases hA b (by rw [q]; simp) with e' | e'
    ·subst e'
     rw [hK (by rw [q]; simp)] at e; cases e
    ·rw [hKP b e'] at e; cases e)
  have hM : Mod K mg (mX s₁.heap H) := ⟨hKb, nsK hns, ⟨mb, nsK hb, hbb⟩, let ⟨mc, h1, h2⟩ := hlim; ⟨mc, nsK h1, h2⟩⟩
  have e0 : Env0 P w K mg (mX s₁.heap H) callerA [] s₁ H := ⟨rfl, hM, fun b o e => aG4 e, Nat.le_of_eq (aCR _ _), trivial, fun b hb => absurd (show b ∈ ([] : List Addr) from hb) (by simp), hok, .of_eq hg⟩
  have hTL : xR mg s₁.heap (mX s₁.heap H) (xQ Ps qs) qs xs := fun y hy => by
   refine ⟨(tb y).1, (tb y).2, if_pos (List.mem_map.mpr ⟨y, hy, rfl⟩), ⟨?_, ?_⟩, hlk y hy⟩
   ·obtain ⟨o, vs, file, tf, flags, tg, inF, text, tt, e1, r1, r2, r3⟩ := (hT y hy).1
    exact ⟨o, vs, file, tf, flags, tg, inF, text, tt, base_of e1 (free_of e1 (fun vs z => by rw [r2] at z; cases z) fun z => by rw [z] at r1; cases r1), r1, r2, r3⟩
   ·obtain ⟨bm, ob, b1, b2, b3, b4, b5, b6⟩ := hbt
    exact ⟨bm, ob, b1, b2, base_of b3 (free_of b3 (fun vs z => by rw [b6] at z; cases z) fun z => by rw [z] at b4; cases b4), b4, b5, b6⟩
  have hTH : aR (xQ Ps qs) H := fun b o e => by
   unfold xQ at e
   split at e
   ·rename_i hb; cases e; exact hP b hb
   ·cases e
  obtain ⟨sp, FO, hsp⟩ := F _ _ hKb (nsK hns) hTL
  refine codeAny_mono (FO.run callerA [] s₁ H ⟨[.ref a], []⟩ [.ref a] [.ref a] _ _ hr e0 (hbind s₁ (.ref a)) (.cons rfl .nil) (hsp H hTH hS)) fun r s' h => ?_
  cases r with
  | error e => exact (hCX H e s' h).elim
  | ok fl =>
   cases fl with
   | next => exact False.elim h
   | brk => exact False.elim h
   | cont => exact False.elim h
   | ret u =>
    obtain ⟨v, H', os, bare, un, hok', r', q⟩ := h
    have q' : v = .bl true := q
    subst q'
    obtain rfl : u = Value.bool true := r'
    have kept : ∀ b o, s₁.heap.get? b = some o -> b ∉ Ps -> s'.heap.get? b = some o := fun b o e hb => by
     cases q : H b with
     | none => exact un.keep b o e q (by intro z; exact absurd (show b ∈ ([] : List Addr) from z) (by simp)) (by simp)
     | some u =>
      rcases hA b (by rw [q]; simp) with z | z
      ·subst z
       rcases hO with z | ⟨ob, xs, z⟩
       ·rw [q] at z; cases z
       ·have z2 := un.frzs b ob _ z
        obtain ⟨e1, _⟩ := hok b _ z
        obtain ⟨e2, _⟩ := hok' b _ z2
        rw [e] at e1; cases e1
        exact e2
      ·exact absurd z hb
    refine ⟨rfl, ⟨fun b o e => ?_, fun b o e => ?_⟩, os, bare⟩
    ·by_cases hb : b ∈ Ps
     ·obtain ⟨ps, e2, _⟩ := (show cE P w H' s'.heap b (.tbl qs) from hok' b _ (un.tbls b _ (hP b hb)))
      have e1 := (hPs b hb).1
      rw [e] at e1; cases e1
      exact .inr (.inl ⟨(hPs b hb).2, rfl, #[], ps, rfl, by rw [Array.empty_append]; exact e2⟩)
     ·exact .inl (kept b o e hb)
    ·by_cases hb : b ∈ Ps
     ·obtain ⟨ps, e2, _⟩ := (show cE P w H' s'.heap b (.tbl qs) from hok' b _ (un.tbls b _ (hP b hb)))
      exact ⟨_, e2⟩
     ·exact ⟨o, kept b o e hb⟩
 have tabOk : ∀ (H : Hp) b, b ∈ Ps -> cE P w H s₁.heap b (.tbl qs) := fun H b hb => ⟨#[], (hPs b hb).1, trivial, fun p _ => .inl rfl⟩
 cases hk : K.lookup a with
 | some o =>
  have e := KX a o hk
  rw [ha] at e
  cases e
  refine core (xQ Ps qs) (fun b hb => if_pos hb) (fun b z => ?_) (.inl (if_neg haP)) (.inr ⟨_, vs.toArray, _, hk, rfl, rfl, rfl, by rw [List.size_toArray, lenV]; exact hl, by simpa using rv⟩) (fun b u z => ?_) fun z => absurd (if_neg haP) z
  ·by_cases hb : b ∈ Ps
   ·exact .inr hb
   ·exact absurd (if_neg hb) z
  ·by_cases hb : b ∈ Ps
   ·have z' := (if_pos hb).symm.trans z
    cases z'
    exact tabOk _ b hb
   ·have z' := (if_neg hb).symm.trans z
    cases z'
 | none =>
  refine core (fun b => if b = a then some (.frz { cls := .type "list", data := .seq vs.toArray } (.lst (ns.map V.int))) else xQ Ps qs b) (fun b hb => ?_) (fun b z => ?_) (.inr ⟨_, _, if_pos rfl⟩) (.inl (.inr ⟨{ cls := .type "list", data := .seq vs.toArray }, if_pos rfl⟩)) (fun b u z => ?_) fun _ => hk
  ·rw [if_neg (show ¬ b = a from fun z => haP (by rw [<- z]; exact hb))]; exact if_pos hb
  ·by_cases hb : b = a
   ·exact .inl hb
   ·rw [if_neg hb] at z
    by_cases hb2 : b ∈ Ps
    ·exact .inr hb2
    ·exact absurd (if_neg hb2) z
  ·by_cases hb : b = a
   ·have z' := (if_pos hb).symm.trans z
    cases z'
    subst hb
    exact ⟨ha, by rw [List.length_map]; exact hl, vs, _, rv, ha⟩
   ·have z' := (if_neg hb).symm.trans z
    by_cases hb2 : b ∈ Ps
    ·have z2 := (if_pos hb2).symm.trans z'
     cases z2
     exact tabOk _ b hb2
    ·have z2 := (if_neg hb2).symm.trans z'
     cases z2
theorem aHU {p : Program} {loose : List Str} {mean : ExcName -> Option Value} {mg mb : Str -> Option Value} {h : Heap} (T : Top p loose mean mg mb h) (xs : List Str) (hx : ∀ x ∈ xs, ∃ d ∈ recsOf p, d.name = x) :
  ∃ tb : Str -> Addr × Addr, (∀ x ∈ xs, PySem.W.CodeHd h (tb x).1 (tb x).2 /\ h.get? (tb x).2 = some (PySem.W.tabObj #[])) /\ ∀ x ∈ xs, ∀ f o fd, mg x = some (.ref f) -> h.get? f = some o -> o.data = .func fd -> fd.code = .ref (tb x).1 := by
 have key : ∀ x, ∃ t : Addr × Addr, x ∈ xs -> (PySem.W.CodeHd h t.1 t.2 /\ h.get? t.2 = some (PySem.W.tabObj #[])) /\ ∀ f o fd, mg x = some (.ref f) -> h.get? f = some o -> o.data = .func fd -> fd.code = .ref t.1 := fun x => by
  by_cases hm : x ∈ xs
  ·obtain ⟨d, hd, rfl⟩ := hx x hm
   obtain ⟨a, o, fd, c, P', h1, h2, h3, h4, h5, h6⟩ := T.tab d hd
   refine ⟨(c, P'), fun _ => ⟨⟨PySem.W.CodeHd.of h5 h6, h6.2⟩, fun f o' fd' e1 e2 e3 => ?_⟩⟩
   rw [h1] at e1; cases e1
   rw [h2] at e2; cases e2
   rw [h3] at e3; cases e3
   exact h4
  ·exact ⟨(0, 0), fun z => absurd z hm⟩
 exact ⟨fun x => (key x).choose, fun x hx => ((key x).choose_spec hx).1, fun x hx => ((key x).choose_spec hx).2⟩
theorem walk_ofT {l : PySem.W.OpenLaw} {n k : Nat} {q : Program} {loose : List Str} {XP : (Str -> Option Value) -> Heap -> Prop} {YP : World -> Heap -> Prop} {d : DefRec} {K : Params -> Frag} {CX : World -> CXT} {x : Str} {qs : List (Pos × Str)} {xs : List Str}
  (hxs : ∀ x ∈ xs, ∃ d ∈ recsOf q, d.name = x) (hNT : ∀ w : World, PySem.W.noTabs (K w.params) = true)
  (hn : l.most = some n) (hn2 : n <= sizeLine) (hdf : d.params.defaults = []) (hr : Room k callerA)
  (hY : ∀ (w : World) (h : Heap), YP w h -> (K w.params).In h)
  (F : ∀ (w : World) (mg : Str -> Option Value) (fa : Addr) (h : Heap), (K w.params).In h -> h.Ns mainGlobals mg -> mg d.name = some (.ref fa) ->
   ∃ fd : FuncData, (∀ (s : Shared) (u : Value), BindsTo s fd ⟨[u], []⟩ [(x, u)]) /\
    ∀ (base : Heap) (T : Hp), (K w.params).In base -> base.Ns mainGlobals mg -> xR mg h base T qs xs -> ∃ sp, FnOk l.prog w (K w.params) mg base (CX w) k fa fd [x] sp /\
     ∀ (H : Hp) (a : Addr) (ns : List Int), ns.length <= n -> aR T H -> SqL (K w.params) H a (ns.map V.int) -> sp [.ref a] H (fun v _ => v = .bl true) fun _ _ _ => False)
  (hCX : ∀ (w : World) (H : Hp) (s : Shared) (e : Value) (s' : Shared), CX w [] H s (fun _ _ _ => False) e s' -> False) :
  PySem.W.WalkO q loose XP YP l.row.toRowW d [] (fun f vs => PySem.call f vs) := by
 refine Att.attach_call hn hdf fun w s₀ s₁ mg mb fa o pm cd doc a vs ns G Y ho hd hcd hmg hobj hints hlen hg => ?_
 have KX := hY w _ Y
 obtain ⟨fd, hb, hF⟩ := F w mg fa _ KX G.T.g hmg
 obtain ⟨tb, hT, hlk⟩ := aHU G.T xs hxs
 refine aDP (qs := qs) hT hlk G.T.bmain (hNT w) KX G.T.g G.T.b G.T.builtins G.T.nolimit hg hobj hints (Nat.le_trans hlen hn2) hr (fun base T kb nb TL => ?_) hb fun H e s' => hCX w H s₁ e s'
 obtain ⟨sp, FO, hs⟩ := hF base T kb nb TL
 exact ⟨sp, FO, fun H h1 h2 => hs H a ns hlen h1 h2⟩
end L2
namespace Fl
open PySem L2 PyProof.Rows
mutual
noncomputable def fH : PyData -> Bool
 | .none => true
 | .int _ => true
 | .str x => PyData.strOk x
 | .tuple xs => eJ xs
 | _ => false
noncomputable def eJ : List PyData -> Bool
 | [] => true
 | x :: t => fH x && eJ t
end
mutual
noncomputable def g7 (w : World) : PyData -> Int
 | .none => reduceHash 0xFCA86420
 | .int i => hashInt i
 | .str x => hashStr w x
 | .tuple xs => reduceHash (Builtin.Tuple.tupleHashOf (lJ w xs))
 | _ => 0
noncomputable def lJ (w : World) : List PyData -> List Int
 | [] => []
 | x :: t => g7 w x :: lJ w t
end
mutual
noncomputable def gH : PyData -> Nat
 | .tuple xs => lS xs + 1
 | _ => 1
noncomputable def lS : List PyData -> Nat
 | [] => 0
 | x :: t => gH x + lS t
end
mutual
theorem qG : ∀ {d : PyData}, fH d = true -> d.canLay0 = true
 | .none, _ => rfl
 | .int _, _ => rfl
 | .str x, h => h
 | .tuple xs, h => by
  have h' : eJ xs = true := h
  exact xS h'
theorem xS : ∀ {xs : List PyData}, eJ xs = true -> PyData.canLayAll0 xs = true
 | [], _ => rfl
 | x :: t, h => by
  have h' : (fH x && eJ t) = true := h
  rw [Bool.and_eq_true] at h'
  show (x.canLay0 && PyData.canLayAll0 t) = true
  rw [qG h'.1, xS h'.2]; rfl
end
mutual
theorem uO : ∀ {d e : PyData}, fH d = true -> fH e = true -> (PyData.eqv d e = true ↔ d = e)
 | .none, e, _, he => by cases e <;> simp [PyData.eqv] <;> cases he
 | .int i, e, _, he => by cases e <;> simp [PyData.eqv] <;> cases he
 | .str x, e, _, he => by cases e <;> simp [PyData.eqv] <;> cases he
 | .tuple xs, e, hd, he => by
  have hd' : eJ xs = true := hd
  cases e with
  | tuple ys =>
   have he' : eJ ys = true := he
   have := xT hd' he'
   show PyData.eqvAll xs ys = true ↔ _
   rw [this]
   exact ⟨fun z => by rw [z], fun z => by cases z; rfl⟩
  | _ => simp [PyData.eqv] <;> cases he
theorem xT : ∀ {xs ys : List PyData}, eJ xs = true -> eJ ys = true -> (PyData.eqvAll xs ys = true ↔ xs = ys)
 | [], ys, _, _ => by cases ys <;> simp [PyData.eqvAll]
 | x :: t, ys, hx, hy => by
  have hx' : (fH x && eJ t) = true := hx
  rw [Bool.and_eq_true] at hx'
  cases ys with
  | nil => simp [PyData.eqvAll]
  | cons y u =>
   have hy' : (fH y && eJ u) = true := hy
   rw [Bool.and_eq_true] at hy'
   rw [PyData.eqvAll, Bool.and_eq_true, uO hx'.1 hy'.1, xT hx'.2 hy'.2]
   exact ⟨fun ⟨a, b⟩ => by rw [a, b], fun z => by cases z; exact ⟨rfl, rfl⟩⟩
end
noncomputable instance decPyData : DecidableEq PyData := fun a b => Classical.propDecidable (a = b)
theorem aHV {d e : PyData} (hd : fH d = true) (he : fH e = true) : PyData.eqv d e = decide (d = e) := by
 by_cases h : d = e
 ·rw [decide_eq_true h, (uO hd he).mpr h]
 ·rw [decide_eq_false h]
  cases q : PyData.eqv d e with
  | false => rfl
  | true => exact absurd ((uO hd he).mp q) h
end Fl
namespace Fl
open PySem L2 PyProof.Rows
theorem aBS (xs : List PyData) : gH (.tuple xs) = lS xs + 1 := by rw [gH]
theorem vX (A : Around) : A.in1.units = A.units + 1 := rfl
def kO (prog : Program) (w : World) (E : Value -> Shared -> Prop) (d : PyData) : Prop := ∀ (v : Value) (as : List Addr) (A : Around) (s : Shared) (Q : Int -> Shared -> Prop), fH d = true -> Reads s.heap v d as -> A.units + d.depth < cLine -> Q (g7 w d) { s with toks := s.toks + gH d } ->
 wpAny (model prog w) A (pyHash v) Q E s
theorem aKQ {prog : Program} {w : World} {E : Value -> Shared -> Prop} : ∀ (xs : List PyData) (ih : ∀ x ∈ xs, kO prog w E x) (vs : List Value) (as : List Addr) (A : Around) (s : Shared) (b : Array Int) (Q : Array Int -> Shared -> Prop), eJ xs = true -> ReadsAll s.heap vs xs as -> A.units + PyData.depthAll xs < cLine ->
  (∀ b', b'.toList = b.toList ++ lJ w xs -> Q b' { s with toks := s.toks + lS xs }) ->
  wpAny (model prog w) A (forIn vs b fun x r => do let h <- pyHash x; pure PUnit.unit; pure (ForInStep.yield (r.push h))) Q E s := by
 intro xs
 induction xs with
 | nil =>
  intro ih vs as A s b Q _ x _ h
  cases x
  exact wpAny_pure (h b (by simp [lJ]))
 | cons k xs ih0 =>
  intro ih vs as A s b Q hk x hu h
  cases x with
  | @cons v vs _ _ as bs x1 x2 =>
   have hk' : (fH k && eJ xs) = true := hk
   rw [Bool.and_eq_true] at hk'
   have hu' : A.units + max k.depth (PyData.depthAll xs) < cLine := hu
   rw [List.forIn_cons]
   refine wpAny_bind (wpAny_bind (ih k List.mem_cons_self _ _ A s _ hk'.1 x1 (by omega) ?_))
   refine wpAny_bind (wpAny_pure (wpAny_pure ?_))
   refine ih0 (fun x hx => ih x (List.mem_cons_of_mem _ hx)) _ _ A { s with toks := s.toks + gH k } _ Q hk'.2 x2 (by omega) fun b' hb => ?_
   have q := h b' (by rw [hb]; simp [lJ])
   rw [show lS (k :: xs) = gH k + lS xs by rw [lS], <- Nat.add_assoc] at q
   exact q
end Fl
namespace Fl
open PySem L2 PyProof.Rows
theorem vY (w : World) (i : Int) : g7 w (.int i) = hashInt i := by rw [g7]
theorem vZ (w : World) (i : Str) : g7 w (.str i) = hashStr w i := by rw [g7]
theorem aDQ (w : World) (xs : List PyData) : g7 w (.tuple xs) = reduceHash (Builtin.Tuple.tupleHashOf (lJ w xs)) := by rw [g7]
theorem aBT (i : Int) : gH (.int i) = 1 := by unfold gH; rfl
theorem aBU (i : Str) : gH (.str i) = 1 := by unfold gH; rfl
theorem aFC {prog : Program} {w : World} {E : Value -> Shared -> Prop} (i : Int) : kO prog w E (.int i) := fun v as A s Q _ r _ h => by
 rw [vY, aBT] at h
 cases r
 exact wpAny_pyHash_int h
theorem aFD {prog : Program} {w : World} {E : Value -> Shared -> Prop} (i : Str) : kO prog w E (.str i) := fun v as A s Q _ r _ h => by
 rw [vZ, aBU] at h
 cases r
 exact wpAny_pyHash_str h
theorem aFE {prog : Program} {w : World} {E : Value -> Shared -> Prop} (xs : List PyData) (ih : ∀ x ∈ xs, kO prog w E x) : kO prog w E (.tuple xs) := fun v as A s Q hk r hu h => by
 rw [aDQ, aBS] at h
 cases r with
 | @tuple a o vs n _ as h1 h2 h3 h4 =>
  have hk' : eJ xs = true := hk
  have hu' : A.units + (PyData.depthAll xs + 1) < cLine := hu
  refine PySem.W.pyHash_slot (T := "tuple") ⟨o, h1, h2⟩ F.slot_tuple_hash F.entry_tuple_hash (F.args_tuple_hash_1 _) (beq_builtin_none _) (.inr (by omega)) ?_
  show wpAny _ _ (Builtin.Tuple.tupleItemsOf (.ref a) >>= _) _ _ s
  refine wpAny_bind (wpAny_tupleItemsOf h1 h3 ?_)
  refine wpAny_bind ?_
  rw [<- Array.forIn_toList]
  refine aKQ xs ih vs.toList as A.in1 s #[] _ hk' h4 (by rw [vX]; omega) fun b hb => ?_
  show wpAny _ _ (retInt (Builtin.Tuple.tupleHashOf b.toList)) _ _ _
  rw [hb]
  exact wpAny_bind (wpAny_mkInt (wpAny_pure ⟨_, _, rfl, h⟩))
end Fl
namespace Fl
open PySem L2 PyProof.Rows
theorem aBV (w : World) : g7 w .none = reduceHash 0xFCA86420 := by rw [g7]
theorem zS : gH .none = 1 := by unfold gH; rfl
theorem aFF {prog : Program} {w : World} {E : Value -> Shared -> Prop} : kO prog w E .none := fun v as A s Q _ r hu h => by
 rw [aBV, zS] at h
 generalize hg : reduceHash 0xFCA86420 = g at h
 cases r
 refine PySem.W.pyHash_slot (T := "NoneType") rfl F.slot_NoneType_hash F.entry_NoneType_hash (F.args_NoneType_hash_1 _) (beq_builtin_none _) (.inr (by omega)) (wpAny_bind (wpAny_pure (wpAny_bind (wpAny_mkInt (wpAny_pure ⟨0xFCA86420, _, rfl, ?_⟩)))))
 rw [hg]
 exact h
end Fl
namespace Fl
open PySem L2 PyProof.Rows
theorem aKR {prog : Program} {w : World} {E : Value -> Shared -> Prop} : ∀ (n : Nat) (d : PyData), sizeOf d <= n -> kO prog w E d := by
 intro n
 induction n with
 | zero => intro d h; cases d <;> simp at h
 | succ n ih =>
  intro d h
  cases d with
  | none => exact aFF
  | int i => exact aFC i
  | str x => exact aFD x
  | tuple xs =>
   refine aFE xs fun x hx => ih x ?_
   have := List.sizeOf_lt_of_mem hx
   simp only [PyData.tuple.sizeOf_spec] at h
   omega
  | bool b => exact fun v as A s Q hk => nomatch hk
  | list xs => exact fun v as A s Q hk => nomatch hk
  | dict xs => exact fun v as A s Q hk => nomatch hk
theorem aKS {prog : Program} {w : World} {E : Value -> Shared -> Prop} (d : PyData) : kO prog w E d := aKR (sizeOf d) d (Nat.le_refl _)
theorem aHW {M : Model} {A : Around} {E : Value -> Shared -> Prop} {s : Shared} : ∀ (n : Nat) (d : PyData) (v : Value) (as : List Addr) (Q : Bool -> Shared -> Prop), fH d = true -> Reads s.heap v d as -> d.depth <= n -> Q true s -> wpAny M A (eqIsQuiet n v) Q E s := by
 intro n
 induction n with
 | zero =>
  intro d v as Q hk r hd h
  cases d with
  | none => cases r; rw [eqIsQuiet_byValue _ rfl]; exact wpAny_pure h
  | int i => cases r; rw [eqIsQuiet_byValue _ rfl]; exact wpAny_pure h
  | str x => cases r; rw [eqIsQuiet_byValue _ rfl]; exact wpAny_pure h
  | tuple xs =>
   have hd' : PyData.depthAll xs + 1 <= 0 := hd
   omega
  | bool b => exact nomatch hk
  | list xs => exact nomatch hk
  | dict xs => exact nomatch hk
 | succ n ih =>
  intro d v as Q hk r hd h
  cases d with
  | none => cases r; rw [eqIsQuiet_byValue _ rfl]; exact wpAny_pure h
  | int i => cases r; rw [eqIsQuiet_byValue _ rfl]; exact wpAny_pure h
  | str x => cases r; rw [eqIsQuiet_byValue _ rfl]; exact wpAny_pure h
  | bool b => exact nomatch hk
  | list xs => exact nomatch hk
  | dict xs => exact nomatch hk
  | tuple xs =>
   cases r with
   | @tuple a o vs m _ as h1 h2 h3 h4 =>
    have hk' : eJ xs = true := hk
    have hd' : PyData.depthAll xs + 1 <= n + 1 := hd
    have hT : s.TypeIs (.ref a) "tuple" := ⟨o, h1, h2⟩
    unfold eqIsQuiet
    refine wpAny_bind (wpAny_specialOf hT F.slot_tuple_eq.lookup ?_)
    show wpAny _ _ (isInstance (.ref a) (.type "tuple") >>= _) _ _ s
    refine wpAny_bind (wpAny_isInstance hT isSubtype_tuple_tuple ?_)
    simp only [Bool.not_true, Bool.false_eq_true, if_false]
    refine wpAny_bind (wpAny_seqItems h1 h3 ?_)
    refine wpAny_bind ?_
    show wpAny _ _ (forIn vs _ _) _ _ s
    rw [<- Array.forIn_toList]
    refine wpAny_forIn_list _ (fun rest r s' => r.1 = none /\ s' = s /\ ∃ ys bs, eJ ys = true /\ PyData.depthAll ys <= n /\ ReadsAll s.heap rest ys bs) _ ?_ ?_ _ _ ⟨rfl, rfl, xs, _, hk', by omega, h4⟩
    ·rintro v rest r s' ⟨hr, rfl, ys, bs, hy, hdy, ry⟩
     cases ry with
     | @cons _ _ y yt cs ds r1 r2 =>
      have hy' : (fH y && eJ yt) = true := hy
      rw [Bool.and_eq_true] at hy'
      have hdy' : max y.depth (PyData.depthAll yt) <= n := hdy
      refine wpAny_bind (ih y v _ _ hy'.1 r1 (by omega) ?_)
      simp only [Bool.not_true, Bool.false_eq_true, if_false]
      exact wpAny_pure ⟨rfl, rfl, yt, _, hy'.2, by omega, r2⟩
    ·rintro ⟨r1, r2⟩ s' ⟨hr, rfl, _⟩
     simp only at hr
     subst hr
     exact wpAny_pure h
def aOD (h : Heap) (d : PyData) (a : Addr) : Prop := fH d = true /\ d.depth <= 8 /\ ∃ as, Reads h (.ref a) d as
theorem aBW {h h' : Heap} {a : Addr} {o : Obj} {es : Array DictEntry} {ep : Nat} (ho : h.get? a = some o) (hd : o.data = .dict es ep) (hs : Heap.SameBut a h h') {v : Value} {d : PyData} {as : List Addr} (hk : fH d = true) (r : Reads h v d as) : Reads h' v d as := by
 refine Reads.rec (motive_1 := fun v d as _ => fH d = true -> Reads h' v d as) (motive_2 := fun vs xs as _ => eJ xs = true -> ReadsAll h' vs xs as) ?_ ?_ ?_ ?_ ?_ ?_ ?_ ?_ ?_ r hk
 ·exact fun _ => .none
 ·intro b hk; cases hk
 ·exact fun i t _ => .int i t
 ·exact fun i t _ => .str i t
 ·intro b o' vs n xs as h1 h2 h3 h4 ih hk; cases hk
 ·intro b o' vs n xs as h1 h2 h3 h4 ih hk
  exact .tuple ((hs.2 b (fun z => by subst z; rw [ho] at h1; cases h1; rw [hd] at h3; cases h3)).trans h1) h2 h3 (ih hk)
 ·intro b o' es' n kvs as bs h1 h2 h3 h4 h5 i1 i2 hk; cases hk
 ·exact fun _ => .nil
 ·intro v vs d ds as bs r1 r2 i1 i2 hk
  exact .cons (i1 ((Bool.and_eq_true ..).mp hk).1) (i2 ((Bool.and_eq_true ..).mp hk).2)
noncomputable def iZ (prog : Program) (w : World) : HeapKind prog w PyData where
 is := aOD
 hash := g7 w
 draws := gH
 room := fun A => A.units + 9 < cLine
 inj := fun {h a x y} hx hy => by
  obtain ⟨k1, _, as, r1⟩ := hx
  obtain ⟨k2, _, bs, r2⟩ := hy
  exact PySem.SeqAt.Reads.unique x y _ _ _ (qG k1) r1 r2
 keeps := fun {h h' k a d o es ep} hx ho hd hs => by
  obtain ⟨k1, k2, as, r1⟩ := hx
  exact ⟨k1, k2, as, aBW ho hd hs k1 r1⟩
 pyHash := fun {A E s k a Q} hu hk h => by
  obtain ⟨k1, k2, as, r1⟩ := hk
  exact aKS k _ as A s Q k1 r1 (by omega) h
 eqBool := fun {A E s x y a b Q} hu hx hy h => by
  obtain ⟨k1, k2, as, r1⟩ := hx
  obtain ⟨l1, l2, bs, r2⟩ := hy
  refine PySem.SeqAt.eqAt_reads x y A s _ _ as bs r1 r2 (qG k1) (qG l1) ?_ prog w E Q ?_
  ·have : min x.depth y.depth <= 8 := Nat.le_trans (Nat.min_le_left _ _) k2
   omega
  ·rw [aHV k1 l1]; exact h
 quiet := fun {A E s k a Q} hk h => by
  obtain ⟨k1, k2, as, r1⟩ := hk
  exact aHW 8 k _ as Q k1 r1 k2 h
end Fl
namespace Fl
open PySem L2 PyProof.Rows
abbrev Ent := PyData × V × V
def qH (w : World) (p : Ent) (en : DictEntry) : Prop := en.hash = g7 w p.1 /\ bC p.2.1 en.key /\ bC p.2.2 en.val
def fD (w : World) (a : Addr) (es : List Ent) : HO := .ext fun h => (a == sysModules) = false /\ ∃ o ar ep, h.get? a = some o /\ o.ExactDict /\ o.data = .dict ar ep /\ Paired (qH w) es ar.toList
theorem lK {P : Program} {w : World} {H : Hp} {h : Heap} {a : Addr} {es : List Ent} (hd : (a == sysModules) = false) (hh : ∃ o ar ep, h.get? a = some o /\ o.ExactDict /\ o.data = .dict ar ep /\ Paired (qH w) es ar.toList) : cE P w H h a (fD w a es) :=
 ⟨⟨hd, hh⟩, let ⟨o, _, _, e, _⟩ := hh; ⟨o, e⟩, fun h1 h2 ⟨q, o, es, ep, e, r⟩ kp => ⟨q, o, es, ep, kp _ e, r⟩⟩
noncomputable def lT : PyData -> Bool
 | .tuple xs => fH (.tuple xs) && decide ((PyData.tuple xs).depth <= 8)
 | _ => false
noncomputable def aBX : PyData -> Bool
 | .int _ => true
 | .str _ => true
 | _ => false
def eY (k : PyData) (ks : List PyData) : Bool := (lT k && ks.all lT) || (aBX k && ks.all aBX)
theorem aHX {d : PyData} (h : lT d = true) : ∃ xs, d = .tuple xs /\ fH d = true /\ d.depth <= 8 := by
 cases d with
 | tuple xs =>
  have h' : (fH (.tuple xs) && decide ((PyData.tuple xs).depth <= 8)) = true := h
  rw [Bool.and_eq_true] at h'
  exact ⟨xs, rfl, h'.1, of_decide_eq_true h'.2⟩
 | _ => cases h
def jN : Key -> PyData
 | .inl i => .int i
 | .inr x => .str x
theorem aAH {d : PyData} (h : aBX d = true) : ∃ k, d = jN k := by
 cases d with
 | int i => exact ⟨.inl i, rfl⟩
 | str i => exact ⟨.inr i, rfl⟩
 | _ => cases h
theorem v3 {a b : Key} (h : jN a = jN b) : a = b := by
 cases a <;> cases b <;> cases h <;> rfl
theorem aAI {K : Frag} {H : Hp} {v : V} {k : Key} (h : DatV K H v (jN k)) : v = kV k := by
 cases k with
 | inl i => exact h.int_of
 | inr x => exact h.str_of
theorem xU {P : Program} {w : World} (k : Key) : g7 w (jN k) = (dQ P w).hash k := by
 cases k with
 | inl i => exact vY w i
 | inr x => exact vZ w x
def uP : Ent -> (PyData × Addr × Value) -> Prop := fun e x => e.1 = x.1 /\ e.2.1 = .ref x.2.1 /\ bC e.2.2 x.2.2
def uQ : Ent -> (Key × Value) -> Prop := fun e x => e.1 = jN x.1 /\ e.2.1 = kV x.1 /\ bC e.2.2 x.2
theorem aDR {P : Program} {w : World} : ∀ {es : List Ent} {ens : List DictEntry}, Paired (qH w) es ens -> (∀ e ∈ es, ∃ b, e.2.1 = .ref b) -> ∃ xs, ens = xs.map (entryOfKey (iZ P w)) /\ Paired uP es xs
 | _, _, .nil, _ => ⟨[], rfl, .nil⟩
 | e :: es, en :: ens, .cons h t, hb => by
  obtain ⟨xs, h1, h2⟩ := aDR (P := P) t fun e he => hb e (List.mem_cons_of_mem _ he)
  obtain ⟨b, hb'⟩ := hb e List.mem_cons_self
  obtain ⟨q1, q2, q3⟩ := h
  rw [hb'] at q2
  obtain ⟨hash, key, val⟩ := en
  have q2' : key = Value.ref b := q2
  have q1' : hash = g7 w e.1 := q1
  subst q2' q1'
  exact ⟨(e.1, b, val) :: xs, by rw [List.map_cons, h1]; rfl, .cons ⟨rfl, hb', q3⟩ h2⟩
theorem rR {P : Program} {w : World} : ∀ {es : List Ent} {xs : List (PyData × Addr × Value)}, Paired uP es xs -> Paired (qH w) es (xs.map (entryOfKey (iZ P w)))
 | _, _, .nil => .nil
 | _, _, .cons h t => .cons ⟨by rw [h.1]; rfl, by rw [h.2.1]; rfl, h.2.2⟩ (rR t)
theorem aDS {P : Program} {w : World} : ∀ {es : List Ent} {ens : List DictEntry}, Paired (qH w) es ens -> (∀ e ∈ es, ∃ k, e.1 = jN k /\ e.2.1 = kV k) -> ∃ xs, Pairs (dQ P w) ens xs /\ Paired uQ es xs /\ ∀ en ∈ ens, ∃ k, (dQ P w).is k en.key = true /\ en.hash = (dQ P w).hash k
 | _, _, .nil, _ => ⟨[], .nil, .nil, fun _ h => by cases h⟩
 | e :: es, en :: ens, .cons h t, hb => by
  obtain ⟨xs, h1, h2, h3⟩ := aDS (P := P) t fun e he => hb e (List.mem_cons_of_mem _ he)
  obtain ⟨k, hk1, hk2⟩ := hb e List.mem_cons_self
  obtain ⟨q1, q2, q3⟩ := h
  have hi : (dQ P w).is k en.key = true := aGI (by rw [<- hk2]; exact q2)
  refine ⟨(k, en.val) :: xs, .cons hi rfl h1, .cons ⟨hk1, hk2, q3⟩ h2, fun en' hen => ?_⟩
  rcases List.mem_cons.mp hen with z | z
  · subst z; exact ⟨k, hi, by rw [q1, hk1, xU (P := P)]⟩
  · exact h3 en' z
theorem aHY {P : Program} {w : World} {k : Key} {v : Value} (h : (dQ P w).is k v = true) : bC (kV k) v := by
 rcases keyIs_shape h with ⟨i, t, rfl, rfl⟩ | ⟨x, t, rfl, rfl⟩
 · exact ⟨t, rfl⟩
 · exact ⟨t, rfl⟩
theorem rS {P : Program} {w : World} : ∀ {es : List Ent} {xs : List (Key × Value)} {ens : List DictEntry}, Paired uQ es xs -> Pairs (dQ P w) ens xs -> (∀ en ∈ ens, ∃ k, (dQ P w).is k en.key = true /\ en.hash = (dQ P w).hash k) -> Paired (qH w) es ens
 | _, _, _, .nil, .nil, _ => .nil
 | _, _, _, .cons h t, .cons p1 p2 ps, hk => by
  obtain ⟨k, hk1, hk2⟩ := hk _ List.mem_cons_self
  obtain rfl := (dQ P w).inj _ _ _ hk1 p1
  refine .cons ⟨by rw [hk2, h.1, xU (P := P)], by rw [h.2.1]; exact aHY hk1, by rw [p2]; exact h.2.2⟩ (rS t ps fun en he => hk en (List.mem_cons_of_mem _ he))
noncomputable def atE (es : List Ent) (k : PyData) : Option V := (es.find? fun e => decide (e.1 = k)).map (·.2.2)
noncomputable def mY (es : List Ent) (k : PyData) (kv v : V) : List Ent := if (atE es k).isSome then es.map (fun e => if e.1 = k then (e.1, e.2.1, v) else e) else es ++ [(k, kv, v)]
theorem o9 {k : PyData} : ∀ {es : List Ent} {xs : List (PyData × Addr × Value)}, Paired uP es xs -> g8 (atE es k) ((atKey xs k).map (·.2))
 | _, _, .nil => trivial
 | e :: es, x :: xs, .cons h t => by
  have ih := o9 (k := k) t
  unfold atE atKey at ih ⊢
  rw [List.find?_cons, List.find?_cons, h.1]
  by_cases q : x.1 = k
  · rw [decide_eq_true q]; exact h.2.2
  · rw [decide_eq_false q]; exact ih
theorem pA {k : Key} : ∀ {es : List Ent} {xs : List (Key × Value)}, Paired uQ es xs -> g8 (atE es (jN k)) (valueAt xs k)
 | _, _, .nil => trivial
 | e :: es, x :: xs, .cons h t => by
  have ih := pA (k := k) t
  unfold atE valueAt at ih ⊢
  rw [List.find?_cons, List.find?_cons, h.1]
  by_cases q : x.1 = k
  · rw [decide_eq_true q, decide_eq_true (by rw [q])]; exact h.2.2
  · rw [decide_eq_false q, decide_eq_false (fun z => q (v3 z))]; exact ih
theorem jE {o : Option V} {u : Option Value} (h : g8 o u) : o.isSome = u.isSome := by
 cases o <;> cases u <;> first | rfl | exact h.elim
theorem oA {α β : Type} {f : α -> β -> Prop} {g : α -> α} {k : β -> β} (hg : ∀ a b, f a b -> f (g a) (k b)) : ∀ {xs : List α} {ys : List β}, Paired f xs ys -> Paired f (xs.map g) (ys.map k)
 | _, _, .nil => .nil
 | _, _, .cons h t => .cons (hg _ _ h) (oA hg t)
theorem oC {α β : Type} {f : α -> β -> Prop} {a : α} {b : β} (h : f a b) : ∀ {xs : List α} {ys : List β}, Paired f xs ys -> Paired f (xs ++ [a]) (ys ++ [b])
 | _, _, .nil => .cons h .nil
 | _, _, .cons q t => .cons q (oC h t)
theorem aGL {k : PyData} {b : Addr} {v : V} {u : Value} {es : List Ent} {xs : List (PyData × Addr × Value)} (r : bC v u) (h : Paired uP es xs) : Paired uP (mY es k (.ref b) v) (storedH xs k b u) := by
 have q := jE (o9 (k := k) h)
 rw [Option.isSome_map] at q
 unfold mY storedH
 rw [q]
 cases (atKey xs k).isSome with
 | true =>
  rw [if_pos rfl, if_pos rfl]
  refine oA (fun e x hx => ?_) h
  unfold putAt
  rw [hx.1]
  by_cases z : x.1 = k
  · rw [if_pos z, if_pos z]; exact ⟨rfl, hx.2.1, r⟩
  · rw [if_neg z, if_neg z]; exact hx
 | false => rw [if_neg (by decide), if_neg (by decide)]; exact oC ⟨rfl, rfl, r⟩ h
theorem aGM {k : Key} : ∀ {xs : List (Key × Value)}, xs.any (fun kv => decide (kv.1 = k)) = (valueAt xs k).isSome
 | [] => rfl
 | x :: xs => by
  have ih := aGM (k := k) (xs := xs)
  unfold valueAt at ih ⊢
  rw [List.any_cons, List.find?_cons]
  by_cases q : x.1 = k
  · rw [decide_eq_true q]; rfl
  · rw [decide_eq_false q, Bool.false_or]; exact ih
theorem aGN {k : Key} {v : V} {u : Value} {es : List Ent} {xs : List (Key × Value)} (r : bC v u) (h : Paired uQ es xs) : Paired uQ (mY es (jN k) (kV k) v) (stored xs k u) := by
 have q := jE (pA (k := k) h)
 unfold mY stored
 rw [q, aGM]
 cases (valueAt xs k).isSome with
 | true =>
  rw [if_pos rfl, if_pos rfl]
  refine oA (fun e x hx => ?_) h
  by_cases z : x.1 = k
  · rw [if_pos z, if_pos (by rw [hx.1, z])]; exact ⟨by rw [hx.1], hx.2.1, r⟩
  · rw [if_neg z, if_neg (fun y => z (v3 (hx.1.symm.trans y)))]; exact hx
 | false => rw [if_neg (by decide), if_neg (by decide)]; exact oC ⟨rfl, rfl, r⟩ h
section
variable {X : Cx} {pins : List (Addr × Obj)} {σ : L2.St} {H : Hp} {s : Shared} {a : Addr} {es : List Ent} {k : PyData} {kv v : V} {ku u : Value} {A : Around} {E : Value -> Shared -> Prop}
structure DicAt (X : Cx) (H : Hp) (a : Addr) (es : List Ent) (k : PyData) (kv : V) : Prop where
 o : H a = some (fD X.w a es)
 ks : ∀ e ∈ es, DatV X.K H e.2.1 e.1
 nd : (es.map (·.1)).Nodup
 dk : DatV X.K H kv k
 one : eY k (es.map (·.1)) = true
theorem tD {α β : Type} {f : α -> β -> Prop} {y : β} : ∀ {xs : List α} {ys : List β}, Paired f xs ys -> y ∈ ys -> ∃ x, x ∈ xs /\ f x y
 | _, _, .nil, h => by cases h
 | _, _, .cons q t, h => by
  rcases List.mem_cons.mp h with z | z
  ·subst z; exact ⟨_, List.mem_cons_self, q⟩
  ·obtain ⟨x, h1, h2⟩ := tD t z
   exact ⟨x, List.mem_cons_of_mem _ h1, h2⟩
theorem oE {α β γ : Type} {f : α -> β -> Prop} {g : α -> γ} {k : β -> γ} (h : ∀ a b, f a b -> g a = k b) : ∀ {xs : List α} {ys : List β}, Paired f xs ys -> xs.map g = ys.map k
 | _, _, .nil => rfl
 | _, _, .cons q t => by rw [List.map_cons, List.map_cons, h _ _ q, oE h t]
theorem v4 {α β : Type} {f : α -> β} : ∀ {xs : List α}, (xs.map f).Nodup -> xs.Nodup
 | [], _ => List.nodup_nil
 | x :: t, h => by
  rw [List.map_cons, List.nodup_cons] at h
  exact List.nodup_cons.mpr ⟨fun z => h.1 (List.mem_map_of_mem z), v4 h.2⟩
theorem DicAt.cases (D : DicAt X H a es k kv) (I : Inv X pins σ H s) (rk : bC kv ku) : (a == sysModules) = false /\
    ((∃ b xs, kv = .ref b /\ ku = .ref b /\ Paired uP es xs /\ (iZ X.prog X.w).is s.heap k b /\ s.heap.DictOfH (iZ X.prog X.w) a xs) \/
     (∃ kk xs, k = jN kk /\ kv = kV kk /\ Paired uQ es xs /\ (dQ X.prog X.w).is kk ku = true /\ s.heap.DictOf (dQ X.prog X.w) a xs)) := by
  obtain ⟨⟨hd, o, ar, ep, h1, h2, h3, h4⟩, _, _⟩ := (show cE X.prog X.w H s.heap a (fD X.w a es) from I.hok a _ D.o)
  refine ⟨hd, ?_⟩
  have hone := D.one
  unfold eY at hone
  rw [Bool.or_eq_true, Bool.and_eq_true, Bool.and_eq_true, List.all_eq_true, List.all_eq_true] at hone
  rcases hone with ⟨hk, ha⟩ | ⟨hk, ha⟩
  · have key : ∀ (d : PyData) (v : V), lT d = true -> DatV X.K H v d -> ∃ b', v = .ref b' /\ (iZ X.prog X.w).is s.heap d b' := fun d v hd hv => by
      obtain ⟨ws, rfl, q1, q2⟩ := aHX hd
      obtain ⟨b', vs, rfl, _, _⟩ := hv.tup_of
      obtain ⟨as, r⟩ := hv.reads I (u := .ref b') rfl
      exact ⟨b', rfl, q1, q2, as, r⟩
    obtain ⟨b, rfl, hkb⟩ := key _ _ hk D.dk
    cases (show ku = Value.ref b from rk)
    obtain ⟨xs, hx1, hx2⟩ := aDR (P := X.prog) h4 fun e he => by
      obtain ⟨b', e1, _⟩ := key e.1 e.2.1 (ha _ (List.mem_map_of_mem he)) (D.ks e he)
      exact ⟨b', e1⟩
    refine .inl ⟨b, xs, rfl, rfl, hx2, hkb, o, ar, ep, h1, h2, h3, hx1, fun x hx => ?_, ?_⟩
    · obtain ⟨e, he, hex⟩ := tD hx2 hx
      obtain ⟨b', e1, q⟩ := key e.1 e.2.1 (ha _ (List.mem_map_of_mem he)) (D.ks e he)
      rw [hex.2.1] at e1
      cases e1
      rw [<- hex.1]; exact q
    · rw [<- oE (g := fun e : Ent => e.1) (fun a b h => h.1) hx2]; exact D.nd
  · obtain ⟨kk, rfl⟩ := aAH hk
    have hkv := aAI D.dk
    obtain ⟨xs, hx1, hx2, hx3⟩ := aDS (P := X.prog) h4 fun e he => by
      obtain ⟨k', hk'⟩ := aAH (ha _ (List.mem_map_of_mem he))
      have q := D.ks e he
      rw [hk'] at q
      exact ⟨k', hk', aAI q⟩
    refine .inr ⟨kk, xs, rfl, hkv, hx2, aGI (by rw [<- hkv]; exact rk), o, ar, ep, h1, h2, h3, fun en hen => hx3 en (by simpa using hen), hx1, ?_⟩
    have : es.map (·.1) = (xs.map (·.1)).map jN := by rw [List.map_map]; exact oE (g := fun e : Ent => e.1) (fun a b h => h.1) hx2
    have nd := D.nd
    rw [this] at nd
    exact v4 nd
theorem mH {A : Around} (hu : A.units + 64 < cLine) : (iZ X.prog X.w).room A.in1 := by show A.in1.units + 9 < cLine; rw [vX]; omega
theorem aKT {Q : Value -> Shared -> Prop} (hu : A.units + 64 < cLine) (D : DicAt X H a es k kv) (I : Inv X pins σ H s) (rk : bC kv ku) (h : ∀ s', Inv X pins σ H s' -> Q (.bool (atE es k).isSome) s') : wpAny (model X.prog X.w) A (compareOp .In ku (.ref a)) Q E s := by
 obtain ⟨hd, ⟨b, xs, rfl, rfl, hx, hk, dd⟩ | ⟨kk, xs, rfl, rfl, hx, hk, dd⟩⟩ := D.cases I rk
 ·refine wpAny_in_heap (mH hu) hk hd dd ?_
  have q := jE (o9 (k := k) hx)
  rw [Option.isSome_map] at q
  rw [<- q]; exact h _ (I.tok _)
 ·refine wpAny_in_of hk hd dd.mapOf ?_
  rw [<- jE (pA (k := kk) hx)]; exact h _ (I.tok _)
theorem aHZ {Q : Value -> Shared -> Prop} (hu : A.units + 64 < cLine) (D : DicAt X H a es k kv) (I : Inv X pins σ H s) (rk : bC kv ku) (h : ∀ s', Inv X pins σ H s' -> Q (.bool (!(atE es k).isSome)) s') : wpAny (model X.prog X.w) A (compareOp .NotIn ku (.ref a)) Q E s := by
 obtain ⟨hd, ⟨b, xs, rfl, rfl, hx, hk, dd⟩ | ⟨kk, xs, rfl, rfl, hx, hk, dd⟩⟩ := D.cases I rk
 ·refine wpAny_notIn_heap (mH hu) hk hd dd ?_
  have q := jE (o9 (k := k) hx)
  rw [Option.isSome_map] at q
  rw [<- q]; exact h _ (I.tok _)
 ·refine wpAny_notIn_of hk hd dd.mapOf ?_
  rw [<- jE (pA (k := kk) hx)]; exact h _ (I.tok _)
theorem aH0 {Q : Value -> Shared -> Prop} (hu : A.units + 64 < cLine) (D : DicAt X H a es k kv) (I : Inv X pins σ H s) (rk : bC kv ku) (hv : atE es k = some v) (h : ∀ w' s', Inv X pins σ H s' -> bC v w' -> Q w' s') : wpAny (model X.prog X.w) A (getItem (.ref a) ku) Q E s := by
 obtain ⟨hd, ⟨b, xs, rfl, rfl, hx, hk, dd⟩ | ⟨kk, xs, rfl, rfl, hx, hk, dd⟩⟩ := D.cases I rk
 ·have q := o9 (k := k) hx
  rw [hv] at q
  obtain ⟨w', hw, rw'⟩ := g8.some_of q
  obtain ⟨p, hp, hp2⟩ := Option.map_eq_some_iff.mp hw
  refine wpAny_getItem_heap (mH hu) hk dd hp ?_
  rw [hp2]; exact h w' _ (I.tok _) rw'
 ·have q := pA (k := kk) hx
  rw [hv] at q
  obtain ⟨w', hw, rw'⟩ := g8.some_of q
  exact wpAny_getItem_of hk dd.mapOf hw (h w' _ (I.tok _) rw')
theorem aH1 {Q : Unit -> Shared -> Prop} (hu : A.units + 64 < cLine) (D : DicAt X H a es k kv) (I : Inv X pins σ H s) (rk : bC kv ku) (rv : bC v u) (hz : es.length <= sizeLine) (h : ∀ s', Inv X pins σ (upd H a (fD X.w a (mY es k kv v))) s' -> Q () s') :
  wpAny (model X.prog X.w) A (setItem (.ref a) ku u) Q E s := by
 obtain ⟨hd, ⟨b, xs, rfl, rfl, hx, hk, dd⟩ | ⟨kk, xs, rfl, rfl, hx, hk, dd⟩⟩ := D.cases I rk
 ·have hl : xs.length <= sizeLine := by rw [<- Paired.length hx]; exact hz
  refine wpAny_setItem_heap (hsz := hl) (mH hu) hk dd fun h' dd' hs => h _ ?_
  obtain ⟨q', ar, ep, hq, h2, h3, h4, _, h5⟩ := dd'
  refine qB I (by rw [D.o]; exact True.intro) hs ⟨q', hq⟩ (lK hd ⟨q', ar, ep, hq, h2, h3, ?_⟩)
  rw [h4]
  exact rR (aGL rv hx)
 ·have hl : xs.length <= sizeLine := by rw [<- Paired.length hx]; exact hz
  refine wpAny_setItem_pairs (hsz := hl) hk dd fun h' dd' hs => h _ ?_
  obtain ⟨q', ar, ep, hq, h2, h3, h4, h5, _⟩ := dd'
  refine qB I (by rw [D.o]; exact True.intro) hs ⟨q', hq⟩ (lK hd ⟨q', ar, ep, hq, h2, h3, ?_⟩)
  exact rS (aGN rv hx) h5 fun en hen => h4 en (by simpa using hen)
end
end Fl
namespace Fl
open PySem L2 PyProof.Rows
structure Er where
 c : Str
 fs : List (Str × PyData)
inductive R (α : Type) where
 | bad | ok (a : α) | ex (e : Er)
noncomputable def R.bind {α β : Type} : R α -> (α -> R β) -> R β
 | .bad, _ => .bad
 | .ok a, f => f a
 | .ex e, _ => .ex e
@[simp] theorem R.bind_ok {α β : Type} (a : α) (f : α -> R β) : (R.ok a).bind f = f a := id rfl
@[simp] theorem R.bind_bad {α β : Type} (f : α -> R β) : (R.bad : R α).bind f = .bad := id rfl
@[simp] theorem R.bind_ex {α β : Type} (e : Er) (f : α -> R β) : (R.ex e : R α).bind f = .ex e := id rfl
inductive A where
 | d (x : PyData) | l (xs : List PyData) | m (kvs : List (PyData × PyData)) | x (e : Er) | g (k n : Nat) (f : List PyData -> R PyData) | k (q : Str)
abbrev Sg := List (Option A)
structure Gb where
 B : Addr -> Hp -> Nat -> Nat -> (List PyData -> R PyData) -> Prop
 T : Hp
structure Ct where
 K : Frag
 mg : Str -> Option Value
 w : World
 F0 : Hp
 H0 : Hp
 g : Gb
 cells : List (Str × Addr)
 cls : Str -> Option ClSt
theorem xV {w : World} {p : Addr} {es : List Ent} {q : Str} (h : fD w p es = .cod q) : False := by unfold fD at h; cases h
theorem cN (H : Hp) : aR H H := fun _ _ h => h
theorem cB {H H' : Hp} (s : aR H H') {a : Addr} (h : H' a = none) : H a = none := by
 cases e : H a with
 | none => rfl
 | some o => rw [s a o e] at h; cases h
def mI (H : Hp) (a : Addr) : Prop := H a = none \/ ∃ q, H a = some (.cod q)
theorem mI.back {H H1 : Hp} {a : Addr} (s : aR H H1) (h : mI H1 a) : mI H a := by
 cases e : H a with
 | none => exact .inl e
 | some o =>
  have e1 := s a o e
  rcases h with z | ⟨q, z⟩
  · rw [e1] at z; cases z
  · rw [e1] at z; cases z; exact .inr ⟨q, e⟩
structure Ext (F H F' H' : Hp) : Prop where
 hh : aR H H'
 ff : aR F F'
 fh : aR F' H'
 nw : ∀ a, F a = none -> F' a ≠ none -> mI H a
theorem Ext.refl {F H : Hp} (h : aR F H) : Ext F H F H := ⟨cN H, cN F, h, fun a e n => absurd e n⟩
theorem Ext.trans {F H F1 H1 F2 H2 : Hp} (a : Ext F H F1 H1) (b : Ext F1 H1 F2 H2) : Ext F H F2 H2 :=
 ⟨fun x o e => b.hh x o (a.hh x o e), fun x o e => b.ff x o (a.ff x o e), b.fh, fun x e n => by
  cases q : F1 x with
  | none => exact (b.nw x q n).back a.hh
  | some o => exact a.nw x e (by rw [q]; exact fun z => nomatch z)⟩
theorem Ext.stay {F H F' H' : Hp} (s : Ext F H F' H') {p : Addr} {o : HO} (h3 : F p = none) (h2 : H p = some o) (hno : ∀ q, o ≠ .cod q) : F' p = none := by
 cases q : F' p with
 | none => rfl
 | some o =>
  rcases s.nw p h3 (by rw [q]; exact fun z => nomatch z) with z | ⟨q', z⟩
  · rw [z] at h2; cases h2
  · rw [z] at h2; cases h2; exact absurd rfl (hno _)
theorem aFG {F H : Hp} {p : Addr} {o : HO} (s : aR F H) : aR (upd F p o) (upd H p o) := fun a u e => by
 by_cases q : a = p
 · subst q; rw [aW] at e ⊢; exact e
 · rw [aG q] at e ⊢; exact s a u e
theorem Ext.new {F H : Hp} {p : Addr} {o : HO} (s : aR F H) (hp : H p = none) : Ext F H (upd F p o) (upd H p o) :=
 ⟨aR.upd hp, aR.upd (cB s hp), aFG s, fun a e n => by
  by_cases q : a = p
  · subst q; exact .inl hp
  · rw [aG q] at n; exact absurd e n⟩
theorem Ext.own {F H : Hp} {p : Addr} {o : HO} (s : aR F H) (hp : H p = none) : Ext F H F (upd H p o) :=
 ⟨aR.upd hp, cN F, fun a u e => by
  rw [aG (bG (s a u e) hp)]; exact s a u e, fun a e n => absurd e n⟩
def kA (K : Frag) (mg : Str -> Option Value) (F : Hp) (e : Er) (a C : Addr) : Prop := mg e.c = some (.ref C) /\ ∃ od, F a = some (ExO a C od) /\ ((e.fs = [] /\ od = none) \/ ∃ d fvs, od = some d /\ F d = some (.xd fvs) /\ fvs.map (·.1) = e.fs.map (·.1) /\ DatVs K F (fvs.map (·.2)) (e.fs.map (·.2)))
theorem kA.same {K : Frag} {mg : Str -> Option Value} {F F' : Hp} {e : Er} {a C : Addr} (s : aR F F') (h : kA K mg F e a C) : kA K mg F' e a C := by
 obtain ⟨m, od, h1, h2⟩ := h
 refine ⟨m, od, s _ _ h1, h2.imp id ?_⟩
 rintro ⟨d, fvs, e1, e2, e3, e4⟩
 exact ⟨d, fvs, e1, s _ _ e2, e3, e4.same s⟩
def AF (g : Gb) (K : Frag) (mg : Str -> Option Value) (F : Hp) : A -> V -> Prop
 | .d x, v => DatV K F v x
 | .x e, v => ∃ a C, v = .ref a /\ kA K mg F e a C
 | .g k n G, v => ∃ f F1, v = .ref f /\ aR F1 F /\ g.B f F1 k n G
 | _, _ => False
theorem AF.same {g : Gb} {K : Frag} {mg : Str -> Option Value} {F F' : Hp} (s : aR F F') : ∀ {a : A} {v : V}, AF g K mg F a v -> AF g K mg F' a v := by
 intro a v h
 cases a with
 | d x => exact DatV.same s h
 | x e =>
  obtain ⟨a, C, h1, h2⟩ := h
  exact ⟨a, C, h1, h2.same s⟩
 | g k n G =>
  obtain ⟨f, F1, h1, h2, h3⟩ := h
  exact ⟨f, F1, h1, fun a o z => s a o (h2 a o z), h3⟩
 | _ => exact h
noncomputable def A.own : A -> Bool
 | .l _ => true
 | .m _ => true
 | _ => false
structure MapRel (K : Frag) (F : Hp) (es : List Ent) (kvs : List (PyData × PyData)) : Prop where
 k1 : es.map (·.1) = kvs.map (·.1)
 k2 : DatVs K F (es.map (·.2.1)) (kvs.map (·.1))
 vs : DatVs K F (es.map (·.2.2)) (kvs.map (·.2))
 nd : (kvs.map (·.1)).Nodup
theorem MapRel.same {K : Frag} {F F' : Hp} {es : List Ent} {kvs : List (PyData × PyData)} (s : aR F F') (h : MapRel K F es kvs) : MapRel K F' es kvs := ⟨h.k1, h.k2.same s, h.vs.same s, h.nd⟩
def AO (c : Ct) (F H : Hp) : A -> V -> Prop
 | .l xs, v => ∃ p vs, v = .ref p /\ H p = some (.lst vs) /\ F p = none /\ c.H0 p = none /\ DatVs c.K F vs xs
 | .m kvs, v => ∃ p es, v = .ref p /\ H p = some (fD c.w p es) /\ F p = none /\ c.H0 p = none /\ MapRel c.K F es kvs
 | .k q, v => ∃ S f cl doc pm cc ct, c.cls q = some S /\ v = .ref f /\ F f = some (FnO f (S.obj cl doc pm cc ct)) /\ F cc = some (.cod S.qual) /\ ClOf c.cells S.scope cl
 | a, v => AF c.g c.K c.mg F a v
theorem AO.ext {c : Ct} {F H F' H' : Hp} (s : Ext F H F' H') : ∀ {a : A} {v : V}, AO c F H a v -> AO c F' H' a v := by
 intro a v h
 cases a with
 | d x => exact DatV.same s.ff h
 | x e => exact AF.same (g := c.g) (K := c.K) (mg := c.mg) (a := .x e) s.ff h
 | g k n G => exact AF.same (g := c.g) (K := c.K) (mg := c.mg) (a := .g k n G) s.ff h
 | k q =>
  obtain ⟨S, f, cl, doc, pm, cc, ct, h0, h1, h2, h3, h4⟩ := h
  exact ⟨S, f, cl, doc, pm, cc, ct, h0, h1, s.ff _ _ h2, s.ff _ _ h3, h4⟩
 | l xs =>
  obtain ⟨p, vs, h1, h2, h3, h4, h5⟩ := h
  exact ⟨p, vs, h1, s.hh _ _ h2, s.stay h3 h2 (fun _ z => nomatch z), h4, h5.same s.ff⟩
 | m kvs =>
  obtain ⟨p, vs, h1, h2, h3, h4, h5⟩ := h
  exact ⟨p, vs, h1, s.hh _ _ h2, s.stay h3 h2 (fun _ z => xV z), h4, h5.same s.ff⟩
theorem AO.at {c : Ct} {F H : Hp} {a : A} {v : V} (h : AO c F H a v) (o : a.own = true) : ∃ p o, v = .ref p /\ H p = some o /\ F p = none /\ c.H0 p = none := by
 cases a with
 | l xs => obtain ⟨p, vs, h1, h2, h3, h4, h5⟩ := h; exact ⟨p, _, h1, h2, h3, h4⟩
 | m xs => obtain ⟨p, vs, h1, h2, h3, h4, h5⟩ := h; exact ⟨p, _, h1, h2, h3, h4⟩
 | d x => cases o
 | x e => cases o
 | g k n f => cases o
 | k S => cases o
theorem AO.off {c : Ct} {F H : Hp} {p : Addr} {o : HO} : ∀ {a : A} {v : V}, AO c F H a v -> v ≠ .ref p -> AO c F (upd H p o) a v := by
 intro a v h n
 cases a with
 | l xs =>
  obtain ⟨q, vs, h1, h2, h3, h4, h5⟩ := h
  exact ⟨q, vs, h1, by rw [aG (fun z => n (by rw [h1, z]))]; exact h2, h3, h4, h5⟩
 | m xs =>
  obtain ⟨q, vs, h1, h2, h3, h4, h5⟩ := h
  exact ⟨q, vs, h1, by rw [aG (fun z => n (by rw [h1, z]))]; exact h2, h3, h4, h5⟩
 | d x => exact h
 | x e => exact h
 | g k n G => exact h
 | k S => exact h
structure Ab (c : Ct) (ρ : Sg) (σ : L2.St) (F H : Hp) : Prop where
 len : ρ.length = σ.length
 fh : aR F H
 slot : ∀ (i : Nat) (a : A), ρ[i]? = some (some a) -> ∃ v, σ[i]? = some (some v) /\ AO c F H a v
 apart : ∀ (i j : Nat) (a b : A), i ≠ j -> ρ[i]? = some (some a) -> ρ[j]? = some (some b) -> a.own = true -> b.own = true -> σ[i]? ≠ σ[j]?
 f0 : aR c.F0 F
 h0 : aR c.H0 H
 n0 : ∀ a, c.F0 a = none -> F a ≠ none -> mI c.H0 a
 t0 : aR c.g.T c.F0
theorem Ab.all {c : Ct} {ρ : Sg} {σ : L2.St} {F H : Hp} (b : Ab c ρ σ F H) : Ext c.F0 c.H0 F H := ⟨b.h0, b.f0, b.fh, b.n0⟩
theorem Ab.ext {c : Ct} {ρ : Sg} {σ : L2.St} {F H F' H' : Hp} (b : Ab c ρ σ F H) (e : Ext F H F' H') : Ab c ρ σ F' H' where
 len := b.len
 fh := e.fh
 slot := fun i a h => let ⟨v, h1, h2⟩ := b.slot i a h; ⟨v, h1, h2.ext e⟩
 apart := b.apart
 f0 := fun x o h => e.ff x o (b.f0 x o h)
 h0 := fun x o h => e.hh x o (b.h0 x o h)
 n0 := fun a h n => by
  cases q : F a with
  | none => exact (e.nw a q n).back b.h0
  | some o => exact b.n0 a h (by rw [q]; exact fun z => nomatch z)
 t0 := b.t0
def XW (c : Ct) (E : XK) (e : Er) : Prop := ∀ a C F' H', Ext c.F0 c.H0 F' H' -> kA c.K c.mg F' e a C -> E (.ref C) (some a) H'
def Rk {α : Type} (c : Ct) (E : XK) (F H : Hp) (r : R α) (k : α -> Prop) : Prop := match r with
 | .bad => False
 | .ok a => k a
 | .ex e => XW c E e
abbrev VR (α : Type) := α -> V -> Hp -> Hp -> Hp -> Prop
def tV {α : Type} (Rel : VR α) (c : Ct) (E : XK) (f : Sg -> R α) : TE := fun σ H Q => ∃ ρ F, Ab c ρ σ F H /\ Rk c E F H (f ρ) fun d => ∀ v F' H', Ext F H F' H' -> Rel d v H F' H' -> Q v H'
def c6 (c : Ct) : VR PyData := fun d v _ F _ => DatV c.K F v d
def a7 (K : Frag) (F H : Hp) (v : V) (d : PyData) : Prop := DatV K F v d \/ ∃ p vs xs, v = .ref p /\ d = .list xs /\ H p = some (.lst vs) /\ DatVs K F vs xs
def bR (c : Ct) : VR PyData := fun d v _ F H => a7 c.K F H v d
def aFH (c : Ct) : VR A := fun a v _ F _ => AF c.g c.K c.mg F a v
def uR (c : Ct) : VR (List PyData) := fun xs v H F H' => ∃ p vs, v = .ref p /\ H p = none /\ H' p = some (.lst vs) /\ F p = none /\ DatVs c.K F vs xs
abbrev PD (X : Cx) (c : Ct) (E : XK) (e : Expr) (f : Sg -> R PyData) : Prop := PE X e (tV (c6 c) c E f)
abbrev PR (X : Cx) (c : Ct) (E : XK) (e : Expr) (f : Sg -> R PyData) : Prop := PE X e (tV (bR c) c E f)
abbrev PV (X : Cx) (c : Ct) (E : XK) (e : Expr) (f : Sg -> R A) : Prop := PE X e (tV (aFH c) c E f)
abbrev PN (X : Cx) (c : Ct) (E : XK) (e : Expr) (f : Sg -> R (List PyData)) : Prop := PE X e (tV (uR c) c E f)
theorem PE.imp {X : Cx} {e : Expr} {t t' : TE} (h : PE X e t) (i : ∀ σ H Q, t' σ H Q -> t σ H Q) : PE X e t' := fun pins s σ H Q I q => h pins s σ H Q I (i σ H Q q)
theorem PT.imp {X : Cx} {e : Expr} {t t' : TT} (h : PT X e t) (i : ∀ σ H Q, t' σ H Q -> t σ H Q) : PT X e t' := fun pins s σ H Q I q => h pins s σ H Q I (i σ H Q q)
theorem PS.imp {X : Cx} {e : Stmt} {t t' : TS} (h : PS X e t) (i : ∀ D σ H, t' D σ H -> t D σ H) : PS X e t' := fun pins s σ H D I q => h pins s σ H D I (i D σ H q)
theorem PSs.imp {X : Cx} {e : List Stmt} {t t' : TS} (h : PSs X e t) (i : ∀ D σ H, t' D σ H -> t D σ H) : PSs X e t' := fun pins s σ H D I q => h pins s σ H D I (i D σ H q)
def aGO {α : Type} (Rel : VR α) : Prop := ∀ d v H F H1 F2 H2, Ext F H1 F2 H2 -> Rel d v H F H1 -> Rel d v H F2 H2
theorem a7.ext {K : Frag} {F H F' H' : Hp} {v : V} {d : PyData} (e : Ext F H F' H') (h : a7 K F H v d) : a7 K F' H' v d := by
 rcases h with h | ⟨p, vs, xs, h1, h2, h3, h4⟩
 · exact .inl (h.same e.ff)
 · exact .inr ⟨p, vs, xs, h1, h2, e.hh _ _ h3, h4.same e.ff⟩
theorem pB (c : Ct) : aGO (bR c) := fun d v H F H1 F2 H2 e h => a7.ext e h
theorem a7.heap {K : Frag} {F H : Hp} {v : V} {d : PyData} (s : aR F H) (h : a7 K F H v d) : DatV K H v d := by
 rcases h with h | ⟨p, vs, xs, h1, h2, h3, h4⟩
 · exact h.same s
 · subst h1 h2; exact .lst (SqL.of h3) (h4.same s)
section
variable {X : Cx} {c : Ct} {E : XK} {α β γ : Type} {Ra : VR α} {Rb : VR β} {Rc : VR γ} {σ : L2.St} {H : Hp} {Q : VK}
theorem Rk.ok {F : Hp} {a : α} {k : α -> Prop} (h : Rk c E F H (.ok a) k) : k a := h
theorem Rk.imp {F : Hp} {r : R α} {k k' : α -> Prop} (h : Rk c E F H r k) (i : ∀ a, r = .ok a -> k a -> k' a) : Rk c E F H r k' := by
 cases r with
 | bad => exact h
 | ok a => exact i a rfl h
 | ex e => exact h
theorem Rk.bind {F : Hp} {r : R α} {f : α -> R β} {k : β -> Prop} (h : Rk c E F H (r.bind f) k) : Rk c E F H r fun a => Rk c E F H (f a) k := by
 cases r with
 | bad => exact h
 | ok a => exact h
 | ex e => exact h
theorem Rk.ext {F F' H' : Hp} {r : R α} {k : α -> Prop} (e : Ext F H F' H') (h : Rk c E F H r k) : Rk c E F' H' r k := by
 cases r with
 | bad => exact h
 | ok a => exact h
 | ex x => exact h
end
def xW {α : Type} (Rel : VR α) : Prop := ∀ d v H H1 F' H', aR H H1 -> Rel d v H1 F' H' -> Rel d v H F' H'
theorem lB (c : Ct) : xW (c6 c) := fun _ _ _ _ _ _ _ h => h
theorem aMZ (c : Ct) : xW (uR c) := fun _ _ _ _ _ _ s h => by
 obtain ⟨p, vs, h1, h2, h3⟩ := h
 exact ⟨p, vs, h1, cB s h2, h3⟩
section
variable {X : Cx} {c : Ct} {E : XK} {α β γ : Type} {Ra : VR α} {Rb : VR β} {Rc : VR γ}
def Op1 (c : Ct) (Ra : VR α) (Rb : VR β) (g : α -> R β) (r : V -> Hp -> VK -> Prop) : Prop :=
 ∀ (H0 F H : Hp) (a : α) (b : β) (v : V) (Q : VK), aR F H -> Ra a v H0 F H -> g a = .ok b -> (∀ w F' H', Ext F H F' H' -> Rb b w H F' H' -> Q w H') -> r v H Q
def Op2 (c : Ct) (Ra : VR α) (Rb : VR β) (Rc : VR γ) (g : α -> β -> R γ) (r : R2) : Prop :=
 ∀ (H0 H1 F H : Hp) (a : α) (b : β) (d : γ) (v u : V) (Q : VK), aR F H -> Ra a v H0 F H -> Rb b u H1 F H -> g a b = .ok d -> (∀ w F' H', Ext F H F' H' -> Rc d w H F' H' -> Q w H') -> r v u H Q
def nI (g : α -> R β) : Prop := ∀ a e, g a ≠ .ex e
def dU (g : α -> β -> R γ) : Prop := ∀ a b e, g a b ≠ .ex e
theorem tV1 {f : Sg -> R α} {g : α -> R β} {r : V -> Hp -> VK -> Prop} (ho : Op1 c Ra Rb g r) (hp : nI g) (kb : xW Rb) {σ : L2.St} {H : Hp} {Q : VK} (h : tV Rb c E (fun ρ => (f ρ).bind g) σ H Q) :
  tV Ra c E f σ H fun v H1 => r v H1 Q := by
 obtain ⟨ρ, F, ab, h⟩ := h
 refine ⟨ρ, F, ab, (Rk.bind h).imp fun a ea q v F1 H1 e1 rv => ?_⟩
 cases eg : g a with
 | bad => rw [eg] at q; exact q.elim
 | ex e => exact absurd eg (hp a e)
 | ok b =>
  rw [eg] at q
  exact ho H F1 H1 a b v Q e1.fh rv eg fun w F' H' e2 rw' => q w F' H' (e1.trans e2) (kb _ _ _ _ _ _ e1.hh rw')
theorem tV2 {f : Sg -> R α} {f' : Sg -> R β} {g : α -> β -> R γ} {r : R2} (ho : Op2 c Ra Rb Rc g r) (hp : dU g) (ka : aGO Ra) (kb : xW Rc) {σ : L2.St} {H : Hp} {Q : VK} (h : tV Rc c E (fun ρ => (f ρ).bind fun a => (f' ρ).bind fun b => g a b) σ H Q) :
  tOp r (tV Ra c E f) (tV Rb c E f') σ H Q := by
 obtain ⟨ρ, F, ab, h⟩ := h
 refine ⟨ρ, F, ab, (Rk.bind h).imp fun a ea q v F1 H1 e1 rv => ?_⟩
 refine ⟨ρ, F1, ab.ext e1, ((Rk.bind q).ext e1).imp fun b eb q u F2 H2 e2 ru => ?_⟩
 cases eg : g a b with
 | bad => rw [eg] at q; exact q.elim
 | ex e => exact absurd eg (hp a b e)
 | ok d =>
  rw [eg] at q
  exact ho H H1 F2 H2 a b d v u Q e2.fh (ka _ _ _ _ _ _ _ e2 rv) ru eg fun w F' H' e3 rw' => q w F' H' ((e1.trans e2).trans e3) (kb _ _ _ _ _ _ (fun x o z => e2.hh x o (e1.hh x o z)) rw')
end
end Fl
namespace Fl
open PySem L2 PyProof.Rows
section
variable {K : Frag} {F H : Hp} {v : V}
theorem DatV.bl_of {b : Bool} (h : DatV K H v (.bool b)) : v = .bl b := by cases h; rfl
theorem DatV.non_of (h : DatV K H v .none) : v = .non := by cases h; rfl
theorem a7.int_of {i : Int} (h : a7 K F H v (.int i)) : v = .int i := by
 rcases h with h | ⟨_, _, _, _, h, _⟩
 · exact h.int_of
 · cases h
theorem a7.str_of {i : Str} (h : a7 K F H v (.str i)) : v = .str i := by
 rcases h with h | ⟨_, _, _, _, h, _⟩
 · exact h.str_of
 · cases h
theorem a7.bl_of {i : Bool} (h : a7 K F H v (.bool i)) : v = .bl i := by
 rcases h with h | ⟨_, _, _, _, h, _⟩
 · exact DatV.bl_of h
 · cases h
theorem a7.non_of (h : a7 K F H v .none) : v = .non := by
 rcases h with h | ⟨_, _, _, _, h, _⟩
 · exact DatV.non_of h
 · cases h
theorem a7.tup_of {xs : List PyData} (s : aR F H) (h : a7 K F H v (.tuple xs)) : ∃ a vs, v = .ref a /\ SqT K F a vs /\ SqT K H a vs /\ DatVs K F vs xs := by
 rcases h with h | ⟨_, _, _, _, h, _⟩
 ·obtain ⟨a, vs, h1, h2, h3⟩ := h.tup_of
  exact ⟨a, vs, h1, h2, h2.same s, h3⟩
 ·cases h
theorem a7.lst_of {xs : List PyData} (s : aR F H) (h : a7 K F H v (.list xs)) : ∃ a vs, v = .ref a /\ SqL K H a vs /\ DatVs K F vs xs := by
 rcases h with h | ⟨p, vs, ys, h1, h2, h3, h4⟩
 ·obtain ⟨a, vs, h1, h2, h3⟩ := h.lst_of
  exact ⟨a, vs, h1, h2.same s, h3⟩
 ·cases h2
  exact ⟨p, vs, h1, SqL.of h3, h4⟩
theorem xX {vs : List V} {xs : List PyData} {i : Int} {d : PyData} (h : DatVs K F vs xs) (e : atI xs i = some d) : ∃ x, atI vs i = some x /\ DatV K F x d := by
 unfold atI at e ⊢
 rw [h.length]
 cases q : ixN xs.length i with
 | none => rw [q] at e; cases e
 | some j =>
  rw [q] at e
  exact h.get' (i := j) e
end
noncomputable def eV (i : Nat) : Sg -> R PyData := fun ρ => match ρ[i]? with
 | some (some (.d x)) => .ok x
 | _ => .bad
noncomputable def rV (i : Nat) : Sg -> R PyData := fun ρ => match ρ[i]? with
 | some (some (.d x)) => .ok x
 | some (some (.l xs)) => .ok (.list xs)
 | _ => .bad
noncomputable def vV (i : Nat) : Sg -> R A := fun ρ => match ρ[i]? with
 | some (some (.d x)) => .ok (.d x)
 | some (some (.x e)) => .ok (.x e)
 | some (some (.g k n f)) => .ok (.g k n f)
 | _ => .bad
def eC (d : PyData) : Sg -> R PyData := fun _ => .ok d
section
variable {X : Cx} {c : Ct} {E : XK} {e a b : Expr}
theorem bY {i : Nat} (h : PE X e (j3 i)) : PD X c E e (eV i) := PE.imp h fun σ H Q zz0 => by
 obtain ⟨ρ, F, ab, k⟩ := zz0
 unfold eV at k
 split at k
 ·rename_i x hx
  obtain ⟨v, h1, h2⟩ := ab.slot i _ hx
  exact ⟨v, h1, k v F H (Ext.refl ab.fh) h2⟩
 ·exact k.elim
theorem aC {i : Nat} (h : PE X e (j3 i)) : PR X c E e (rV i) := PE.imp h fun σ H Q zz0 => by
 obtain ⟨ρ, F, ab, k⟩ := zz0
 unfold rV at k
 split at k
 ·rename_i x hx
  obtain ⟨v, h1, h2⟩ := ab.slot i _ hx
  exact ⟨v, h1, k v F H (Ext.refl ab.fh) (.inl h2)⟩
 ·rename_i x hx
  obtain ⟨v, h1, p, vs, h2, h3, h4, h5, h6⟩ := ab.slot i _ hx
  exact ⟨v, h1, k v F H (Ext.refl ab.fh) (.inr ⟨p, vs, x, h2, rfl, h3, h6⟩)⟩
 ·exact k.elim
theorem aU {i : Nat} (h : PE X e (j3 i)) : PV X c E e (vV i) := PE.imp h fun σ H Q zz0 => by
 obtain ⟨ρ, F, ab, k⟩ := zz0
 unfold vV at k
 split at k
 ·rename_i x hx
  obtain ⟨v, h1, h2⟩ := ab.slot i _ hx
  exact ⟨v, h1, k v F H (Ext.refl ab.fh) h2⟩
 ·rename_i x hx
  obtain ⟨v, h1, h2⟩ := ab.slot i _ hx
  exact ⟨v, h1, k v F H (Ext.refl ab.fh) h2⟩
 ·rename_i kk nn ff hx
  obtain ⟨v, h1, h2⟩ := ab.slot i _ hx
  exact ⟨v, h1, k v F H (Ext.refl ab.fh) h2⟩
 ·exact k.elim
theorem gP {v : V} {d : PyData} (h : PE X e (tC v)) (hd : ∀ F, DatV c.K F v d) : PD X c E e (eC d) := PE.imp h fun σ H Q ⟨ρ, F, ab, k⟩ => k v F H (Ext.refl ab.fh) (hd F)
theorem aD {i j pos} : PD X c E (.Constant (.int i) j pos) (eC (.int i)) := gP aJR fun _ => .int i
theorem wO {i j pos} : PD X c E (.Constant (.bool i) j pos) (eC (.bool i)) := gP aMM fun _ => .bl i
theorem dG {i j pos} : PD X c E (.Constant (.str i) j pos) (eC (.str i)) := gP wZ fun _ => .str i
theorem tE {j pos} : PD X c E (.Constant .none j pos) (eC .none) := gP aJS fun _ => .non
theorem aA {f : Sg -> R PyData} (h : PD X c E e f) : PR X c E e f := PE.imp h fun σ H Q ⟨ρ, F, ab, k⟩ => ⟨ρ, F, ab, k.imp fun d _ q v F' H' s r => q v F' H' s (.inl r)⟩
def vD (f : Sg -> R PyData) : Sg -> R A := fun ρ => (f ρ).bind fun x => .ok (.d x)
theorem aT {f : Sg -> R PyData} (h : PD X c E e f) : PV X c E e (vD f) := PE.imp h fun σ H Q ⟨ρ, F, ab, k⟩ => ⟨ρ, F, ab, (Rk.bind k).imp fun d _ q v F' H' s r => Rk.ok q v F' H' s r⟩
def getD : A -> R PyData
 | .d x => .ok x
 | _ => .bad
def eA (f : Sg -> R A) : Sg -> R PyData := fun ρ => (f ρ).bind getD
theorem d0 {f : Sg -> R A} (h : PV X c E e f) : PD X c E e (eA f) := PE.imp h fun σ H Q ⟨ρ, F, ab, k⟩ => ⟨ρ, F, ab, (Rk.bind k).imp fun d _ q v F' H' s r => by
 cases d with
 | d x => exact Rk.ok q v F' H' s r
 | _ => exact False.elim q⟩
def eL (f : Sg -> R (List PyData)) : Sg -> R PyData := fun ρ => (f ρ).bind fun xs => .ok (.list xs)
theorem dW {f : Sg -> R (List PyData)} (h : PN X c E e f) : PD X c E e (eL f) := PE.imp h fun σ H Q ⟨ρ, F, ab, k⟩ => ⟨ρ, F, ab, (Rk.bind k).imp fun xs _ q v F' H' s r => by
 obtain ⟨p, vs, h1, h2, h3, h4, h5⟩ := r
 subst h1
 refine Rk.ok q (.ref p) (upd F' p (.lst vs)) H' ⟨s.hh, fun a o z => ?_, fun a o z => ?_, fun a z n => ?_⟩ (.lst (SqL.of aW) (h5.same (aR.upd h4)))
 ·rw [aG (bG (s.ff a o z) h4)]; exact s.ff a o z
 ·by_cases w : a = p
  · subst w; rw [aW] at z; rw [h3]; exact z
  · rw [aG w] at z; exact s.fh a o z
 ·by_cases w : a = p
  · subst w; exact .inl h2
  · rw [aG w] at n; exact s.nw a z n⟩
def e1 {α β : Type} (g : α -> R β) (f : Sg -> R α) : Sg -> R β := fun ρ => (f ρ).bind g
def e2 {α β γ : Type} (g : α -> β -> R γ) (f : Sg -> R α) (f' : Sg -> R β) : Sg -> R γ := fun ρ => (f ρ).bind fun x => (f' ρ).bind fun y => g x y
noncomputable def bE : PyData -> PyData -> R PyData
 | .int i, .int j => .ok (.int (i + j))
 | .str x, .str y => if x.length + y.length <= sizeLine then .ok (.str (x ++ y)) else .bad
 | .tuple xs, .tuple ys => if xs.isEmpty = false /\ xs.length + ys.length <= sizeLine then .ok (.tuple (xs ++ ys)) else .bad
 | _, _ => .bad
def dSub : PyData -> PyData -> R PyData
 | .int i, .int j => .ok (.int (i - j))
 | _, _ => .bad
def dMul : PyData -> PyData -> R PyData
 | .int i, .int j => if (-18446744073709551616 < i /\ i < 18446744073709551616) \/ (-18446744073709551616 < j /\ j < 18446744073709551616) then .ok (.int (i * j)) else .bad
 | _, _ => .bad
def dDiv : PyData -> PyData -> R PyData
 | .int i, .int j => if 0 < j /\ j < 18446744073709551616 then .ok (.int (i / j)) else .bad
 | _, _ => .bad
def dMod : PyData -> PyData -> R PyData
 | .int i, .int j => if 0 < j then .ok (.int (i % j)) else .bad
 | _, _ => .bad
def dNeg : PyData -> R PyData
 | .int i => .ok (.int (-i))
 | _ => .bad
def dLt : PyData -> PyData -> R PyData
 | .int i, .int j => .ok (.bool (decide (i < j)))
 | _, _ => .bad
def dLe : PyData -> PyData -> R PyData
 | .int i, .int j => .ok (.bool (decide (i <= j)))
 | _, _ => .bad
def dGt : PyData -> PyData -> R PyData
 | .int i, .int j => .ok (.bool (decide (j < i)))
 | _, _ => .bad
def dGe : PyData -> PyData -> R PyData
 | .int i, .int j => .ok (.bool (decide (j <= i)))
 | _, _ => .bad
def dEq (x y : PyData) : R PyData := if SeqAt.shaped x = true /\ SeqAt.shaped y = true then .ok (.bool (PyData.eqv x y)) else .bad
def dNe (x y : PyData) : R PyData := if SeqAt.shaped x = true /\ SeqAt.shaped y = true then .ok (.bool (!PyData.eqv x y)) else .bad
def iY : PyData -> Bool
 | .none => true
 | _ => false
def dIs (x y : PyData) : R PyData := if iY y = true then .ok (.bool (iY x)) else .bad
def dIsnt (x y : PyData) : R PyData := if iY y = true then .ok (.bool (!iY x)) else .bad
noncomputable def inD : PyData -> PyData -> Option Bool
 | .str i, .str j => some (!(Builtin.Str.occurrences j i 0 j.length 1).isEmpty)
 | x, .list xs => if SeqAt.shaped x = true /\ SeqAt.shaped (.list xs) = true then some (xs.any fun y => PyData.eqv y x) else none
 | x, .tuple xs => if SeqAt.shaped x = true /\ SeqAt.shaped (.tuple xs) = true then some (xs.any fun y => PyData.eqv y x) else none
 | _, _ => none
def dNin (x y : PyData) : R PyData := match inD x y with
 | some b => .ok (.bool (!b))
 | none => .bad
noncomputable def dIx : PyData -> PyData -> R PyData
 | .list xs, .int i => match atI xs i with
  | some v => .ok v
  | none => .bad
 | .tuple xs, .int i => match atI xs i with
  | some v => .ok v
  | none => .bad
 | .str z, .int i => if z.length <= sizeLine then match atI z.cps.toList i with
  | some u => .ok (.str ⟨#[u]⟩)
  | none => .bad else .bad
 | _, _ => .bad
end
end Fl
namespace Fl
open PySem L2 PyProof.Rows
section
variable {X : Cx} {c : Ct} {E : XK} {e a b : Expr} {α β γ : Type} {Ra : VR α} {Rb : VR β} {Rc : VR γ} {pos : Pos}
def r2D (Ra : VR α) (Rb : VR β) (Rc : VR γ) (g : α -> β -> R γ) : R2 := fun v u H Q => ∃ H0 H1 F a b d, aR F H /\ Ra a v H0 F H /\ Rb b u H1 F H /\ g a b = .ok d /\ ∀ w F' H', Ext F H F' H' -> Rc d w H F' H' -> Q w H'
def r1D (Ra : VR α) (Rb : VR β) (g : α -> R β) : V -> Hp -> VK -> Prop := fun v H Q => ∃ H0 F a b, aR F H /\ Ra a v H0 F H /\ g a = .ok b /\ ∀ w F' H', Ext F H F' H' -> Rb b w H F' H' -> Q w H'
theorem tF {g : α -> β -> R γ} : Op2 c Ra Rb Rc g (r2D Ra Rb Rc g) := fun H0 H1 F H a b d v u Q sf ra rb eg q => ⟨H0, H1, F, a, b, d, sf, ra, rb, eg, q⟩
theorem wP {g : α -> R β} : Op1 c Ra Rb g (r1D Ra Rb g) := fun H0 F H a b v Q sf ra eg q => ⟨H0, F, a, b, sf, ra, eg, q⟩
theorem aN {op : Operator} {g : PyData -> PyData -> R PyData} {fa fb : Sg -> R PyData} (ho : OpR X (binaryOp op) (r2D (bR c) (bR c) (c6 c) g)) (hp : dU g) (ha : PR X c E a fa) (hb : PR X c E b fb) : PD X c E (.BinOp a op b pos) (e2 g fa fb) :=
 PE.imp (aGD ho ha hb) fun σ H Q h => tV2 tF hp (pB c) (lB c) h
theorem tG {op : UnaryOp} {g : PyData -> R PyData} {fa : Sg -> R PyData} (ho : UnR X (unaryOp op) (r1D (bR c) (c6 c) g)) (hp : nI g) (ha : PR X c E a fa) : PD X c E (.UnaryOp op a pos) (e1 g fa) :=
 PE.imp (aMP ho ha) fun σ H Q h => tV1 wP hp (lB c) h
theorem iT {op : CmpOp} {g : PyData -> PyData -> R PyData} {fa fb : Sg -> R PyData} (ho : OpR X (compareOp op) (r2D (bR c) (bR c) (c6 c) g)) (hp : dU g) (ha : PR X c E a fa) (hb : PR X c E b fb) (hm : behindInMarks op b = false) : PD X c E (.Compare a [op] [b] pos) (e2 g fa fb) :=
 PE.imp (aG7 ho ha hb hm) fun σ H Q h => tV2 tF hp (pB c) (lB c) h
theorem bA {g : PyData -> PyData -> R PyData} {fa fb : Sg -> R PyData} (ho : IxR X (r2D (bR c) (bR c) (c6 c) g)) (hp : dU g) (ha : PR X c E a fa) (hb : PR X c E b fb) (hs : z4 b := by exact fun _ _ => rfl) : PD X c E (.Subscript a b pos) (e2 g fa fb) :=
 PE.imp (L2.aMV ho ha hb hs) fun σ H Q h => tV2 tF hp (pB c) (lB c) h
theorem bX (hK : X.K = c.K) : OpR X (binaryOp .Add) (r2D (bR c) (bR c) (c6 c) bE) := by
 intro pins s σ H v u x y Q I rx ry h
 obtain ⟨H0, H1, F, a, b, d, sf, ra, rb, eg, q⟩ := h
 unfold bE at eg
 split at eg
 ·rename_i i j
  cases eg
  obtain rfl := a7.int_of ra
  obtain rfl := a7.int_of rb
  exact aJ2 pins s σ H _ _ x y Q I rx ry ⟨i, j, rfl, rfl, q _ F H (Ext.refl sf) (.int _)⟩
 ·rename_i i j
  split at eg
  ·rename_i hz
   cases eg
   obtain rfl := a7.str_of ra
   obtain rfl := a7.str_of rb
   exact aBE pins s σ H _ _ x y Q I rx ry ⟨i, j, rfl, rfl, hz, q _ F H (Ext.refl sf) (.str _)⟩
  ·cases eg
 ·rename_i xs ys
  split at eg
  ·rename_i hz
   cases eg
   obtain ⟨pa, vs, rfl, fa, ha, da⟩ := a7.tup_of sf ra
   obtain ⟨pb, us, rfl, fb, hb, db⟩ := a7.tup_of sf rb
   rw [<- hK] at ha hb
   refine aHF pins s σ H _ _ x y Q I rx ry ⟨pa, pb, vs, us, rfl, rfl, ha, hb, ?_, by rw [da.length, db.length]; exact hz.2, fun z => ?_, fun z p hp => ?_⟩
   ·intro z; subst z; obtain rfl : xs = [] := by cases da; rfl
    exact absurd hz.1 (by decide)
   ·subst z
    obtain rfl : ys = [] := by cases db; rfl
    exact q _ F H (Ext.refl sf) (by rw [List.append_nil]; exact .tup fa da)
   ·exact q _ _ _ (Ext.new sf hp) (.tup (SqT.of aW) ((da.append db).same (aR.upd (cB sf hp))))
  ·cases eg
 ·cases eg
theorem bD : dU bE := by
 intro a b e h
 unfold bE at h
 split at h <;> (try split at h) <;> cases h
theorem lU {f : Value -> Value -> Sem Value} {g : PyData -> PyData -> R PyData} {C : Int -> Int -> Prop} {k : Int -> Int -> PyData} {kv : Int -> Int -> V} (ho : OpR X f (rI C kv)) (hk : ∀ i j F, DatV c.K F (kv i j) (k i j))
  (hg : ∀ a b d, g a b = .ok d -> ∃ i j, a = .int i /\ b = .int j /\ C i j /\ d = k i j) : OpR X f (r2D (bR c) (bR c) (c6 c) g) := by
 intro pins s σ H v u x y Q I rx ry h
 obtain ⟨H0, H1, F, a, b, d, sf, ra, rb, eg, q⟩ := h
 obtain ⟨i, j, rfl, rfl, hc, rfl⟩ := hg a b d eg
 obtain rfl := a7.int_of ra
 obtain rfl := a7.int_of rb
 exact ho pins s σ H _ _ x y Q I rx ry ⟨i, j, rfl, rfl, hc, q _ F H (Ext.refl sf) (hk i j F)⟩
theorem wQ {f : Value -> Value -> Sem Value} {kv : Int -> Int -> V} (ho : OpR X f (rI0 kv)) : OpR X f (rI (fun _ _ => True) kv) := fun pins s σ H x y v u Q I rx ry ⟨i, j, h1, h2, _, q⟩ => ho pins s σ H x y v u Q I rx ry ⟨i, j, h1, h2, q⟩
theorem kB : OpR X (binaryOp .Sub) (r2D (bR c) (bR c) (c6 c) dSub) := lU (wQ aJ3) (fun _ _ _ => .int _) fun a b d h => by
 unfold dSub at h; split at h
 · cases h; exact ⟨_, _, rfl, rfl, trivial, rfl⟩
 · cases h
theorem iK : OpR X (binaryOp .Mult) (r2D (bR c) (bR c) (c6 c) dMul) := lU aJ4 (fun _ _ _ => .int _) fun a b d h => by
 unfold dMul at h; split at h
 ·split at h
  · rename_i hc; cases h; exact ⟨_, _, rfl, rfl, hc, rfl⟩
  · cases h
 ·cases h
theorem eZ : OpR X (binaryOp .FloorDiv) (r2D (bR c) (bR c) (c6 c) dDiv) := lU aE6 (fun _ _ _ => .int _) fun a b d h => by
 unfold dDiv at h; split at h
 ·split at h
  · rename_i hc; cases h; exact ⟨_, _, rfl, rfl, hc, rfl⟩
  · cases h
 ·cases h
theorem bZ : OpR X (binaryOp .Mod) (r2D (bR c) (bR c) (c6 c) dMod) := lU aJ5 (fun _ _ _ => .int _) fun a b d h => by
 unfold dMod at h; split at h
 ·split at h
  · rename_i hc; cases h; exact ⟨_, _, rfl, rfl, hc, rfl⟩
  · cases h
 ·cases h
theorem xY : OpR X (compareOp .Lt) (r2D (bR c) (bR c) (c6 c) dLt) := lU (wQ aMQ) (fun _ _ _ => .bl _) fun a b d h => by
 unfold dLt at h; split at h
 · cases h; exact ⟨_, _, rfl, rfl, trivial, rfl⟩
 · cases h
theorem iU : OpR X (compareOp .Gt) (r2D (bR c) (bR c) (c6 c) dGt) := lU (wQ aMR) (fun _ _ _ => .bl _) fun a b d h => by
 unfold dGt at h; split at h
 · cases h; exact ⟨_, _, rfl, rfl, trivial, rfl⟩
 · cases h
theorem aKU : OpR X (compareOp .GtE) (r2D (bR c) (bR c) (c6 c) dGe) := lU (wQ aMS) (fun _ _ _ => .bl _) fun a b d h => by
 unfold dGe at h; split at h
 · cases h; exact ⟨_, _, rfl, rfl, trivial, rfl⟩
 · cases h
theorem hU : dU dSub := by intro a b e h; unfold dSub at h; split at h <;> cases h
theorem fX : dU dMul := by intro a b e h; unfold dMul at h; split at h <;> (try split at h) <;> cases h
theorem dE : dU dDiv := by intro a b e h; unfold dDiv at h; split at h <;> (try split at h) <;> cases h
theorem bL : dU dMod := by intro a b e h; unfold dMod at h; split at h <;> (try split at h) <;> cases h
theorem rT : dU dLt := by intro a b e h; unfold dLt at h; split at h <;> cases h
theorem f9 : dU dGt := by intro a b e h; unfold dGt at h; split at h <;> cases h
theorem aFI : dU dGe := by intro a b e h; unfold dGe at h; split at h <;> cases h
theorem fP : dU dEq := by intro a b e h; unfold dEq at h; split at h <;> cases h
theorem rW : dU dNe := by intro a b e h; unfold dNe at h; split at h <;> cases h
theorem aFJ : dU dIs := by intro a b e h; unfold dIs at h; split at h <;> cases h
theorem aBY : dU dIsnt := by intro a b e h; unfold dIsnt at h; split at h <;> cases h
theorem aDT : dU dNin := by intro a b e h; unfold dNin at h; split at h <;> cases h
theorem kP : nI dNeg := by intro a e h; unfold dNeg at h; split at h <;> cases h
theorem aP : dU dIx := by
 intro a b e h
 unfold dIx at h
 split at h <;> (try split at h) <;> (try split at h) <;> cases h
theorem nJ : UnR X (unaryOp .USub) (r1D (bR c) (c6 c) dNeg) := by
 intro pins s σ H v x Q I rx h
 obtain ⟨H0, F, a, d, sf, ra, eg, q⟩ := h
 unfold dNeg at eg
 split at eg
 ·rename_i i
  cases eg
  obtain rfl := a7.int_of ra
  exact aJ6 pins s σ H _ x Q I rx ⟨i, rfl, q _ F H (Ext.refl sf) (.int _)⟩
 ·cases eg
theorem hV (hK : X.K = c.K) (hu : X.A.units + 64 < cLine) : OpR X (compareOp .Eq) (r2D (bR c) (bR c) (c6 c) dEq) := by
 intro pins s σ H v u x y Q I rx ry h
 obtain ⟨H0, H1, F, a, b, d, sf, ra, rb, eg, q⟩ := h
 unfold dEq at eg
 split at eg
 ·rename_i hs
  cases eg
  exact aKG hu pins s σ H _ _ x y Q I rx ry ⟨a, b, by rw [hK]; exact a7.heap sf ra, by rw [hK]; exact a7.heap sf rb, hs.1, hs.2, q _ F H (Ext.refl sf) (.bl _)⟩
 ·cases eg
theorem xZ (hK : X.K = c.K) (hu : X.A.units + 64 < cLine) : OpR X (compareOp .NotEq) (r2D (bR c) (bR c) (c6 c) dNe) := by
 intro pins s σ H v u x y Q I rx ry h
 obtain ⟨H0, H1, F, a, b, d, sf, ra, rb, eg, q⟩ := h
 unfold dNe at eg
 split at eg
 ·rename_i hs
  cases eg
  exact aKH hu pins s σ H _ _ x y Q I rx ry ⟨a, b, by rw [hK]; exact a7.heap sf ra, by rw [hK]; exact a7.heap sf rb, hs.1, hs.2, q _ F H (Ext.refl sf) (.bl _)⟩
 ·cases eg
theorem mJ {K : Frag} {F H : Hp} {v : V} {d : PyData} (h : a7 K F H v d) : decide (v = .non) = iY d := by
 rcases h with h | ⟨p, vs, xs, h1, h2, _⟩
 · cases h <;> rfl
 · subst h1 h2; rfl
theorem aKV : OpR X (compareOp .Is) (r2D (bR c) (bR c) (c6 c) dIs) := by
 intro pins s σ H v u x y Q I rx ry h
 obtain ⟨H0, H1, F, a, b, d, sf, ra, rb, eg, q⟩ := h
 unfold dIs at eg
 split at eg
 ·rename_i hs
  cases eg
  have e2 := mJ rb
  rw [hs] at e2
  refine aJ7 pins s σ H _ _ x y Q I rx ry ⟨of_decide_eq_true e2, q _ F H (Ext.refl sf) ?_⟩
  rw [mJ ra]; exact .bl _
 ·cases eg
theorem aFK : OpR X (compareOp .IsNot) (r2D (bR c) (bR c) (c6 c) dIsnt) := by
 intro pins s σ H v u x y Q I rx ry h
 obtain ⟨H0, H1, F, a, b, d, sf, ra, rb, eg, q⟩ := h
 unfold dIsnt at eg
 split at eg
 ·rename_i hs
  cases eg
  have e2 := mJ rb
  rw [hs] at e2
  refine aG6 pins s σ H _ _ x y Q I rx ry ⟨of_decide_eq_true e2, q _ F H (Ext.refl sf) ?_⟩
  rw [mJ ra]; exact .bl _
 ·cases eg
theorem aBZ {xs : List PyData} (h : SeqAt.shaped (.list xs) = true) : PyData.canLayAll0 xs = true /\ PyData.depthAll xs <= 63 := by
 have h' : (PyData.canLay0 (.list xs) && decide ((PyData.list xs).depth <= 64)) = true := h
 rw [Bool.and_eq_true] at h'
 have hd : PyData.depthAll xs + 1 <= 64 := of_decide_eq_true h'.2
 exact ⟨h'.1, by omega⟩
theorem zT {xs : List PyData} (h : SeqAt.shaped (.tuple xs) = true) : PyData.canLayAll0 xs = true /\ PyData.depthAll xs <= 63 := by
 have h' : (PyData.canLay0 (.tuple xs) && decide ((PyData.tuple xs).depth <= 64)) = true := h
 rw [Bool.and_eq_true] at h'
 have hd : PyData.depthAll xs + 1 <= 64 := of_decide_eq_true h'.2
 exact ⟨h'.1, by omega⟩
theorem tH {d : PyData} (h : SeqAt.shaped d = true) : d.canLay0 = true := by
 have h' : (PyData.canLay0 d && decide (d.depth <= 64)) = true := h
 rw [Bool.and_eq_true] at h'
 exact h'.1
theorem inD_cases {x y : PyData} {b : Bool} (h : inD x y = some b) : (∃ i j, x = .str i /\ y = .str j /\ b = !(Builtin.Str.occurrences j i 0 j.length 1).isEmpty) \/
  (∃ xs, y = .list xs /\ SeqAt.shaped x = true /\ SeqAt.shaped (.list xs) = true /\ b = xs.any fun z => PyData.eqv z x) \/ (∃ xs, y = .tuple xs /\ SeqAt.shaped x = true /\ SeqAt.shaped (.tuple xs) = true /\ b = xs.any fun z => PyData.eqv z x) := by
 unfold inD at h
 split at h
 ·cases h; exact .inl ⟨_, _, rfl, rfl, rfl⟩
 ·split at h
  · rename_i hs; cases h; exact .inr (.inl ⟨_, rfl, hs.1, hs.2, rfl⟩)
  · cases h
 ·split at h
  · rename_i hs; cases h; exact .inr (.inr ⟨_, rfl, hs.1, hs.2, rfl⟩)
  · cases h
 ·cases h
theorem x5 {a b : Nat} (h : a <= 63) : min a b <= 63 := Nat.le_trans (Nat.min_le_left _ _) h
theorem aH2 (hK : X.K = c.K) (hu : X.A.units + 64 < cLine) : OpR X (compareOp .NotIn) (r2D (bR c) (bR c) (c6 c) dNin) := by
 intro pins s σ H v u x y Q I rx ry h
 obtain ⟨H0, H1, F, a, b, d, sf, ra, rb, eg, q⟩ := h
 unfold dNin at eg
 split at eg
 ·rename_i bb hb
  cases eg
  have fin : EP X pins σ Q (.bool (!bb)) s := ⟨.bl (!bb), H, I, rfl, q _ F H (Ext.refl sf) (.bl _)⟩
  rcases inD_cases hb with ⟨i, j, rfl, rfl, rfl⟩ | ⟨xs, rfl, h1, h2, rfl⟩ | ⟨xs, rfl, h1, h2, rfl⟩
  ·obtain rfl := a7.str_of ra
   obtain rfl := a7.str_of rb
   exact w5 pins s σ H _ _ x y Q I rx ry ⟨i, j, rfl, rfl, q _ F H (Ext.refl sf) (.bl _)⟩
  ·obtain ⟨as, r1⟩ := DatV.reads I (by rw [hK]; exact a7.heap sf ra) rx
   obtain ⟨bs, r2⟩ := DatV.reads I (by rw [hK]; exact a7.heap sf rb) ry
   have hs := aBZ h2
   have hm := x5 (b := a.depth) hs.2
   exact SeqAt.notIn_list_reads r2 r1 hs.1 (tH h1) (by omega) fin
  ·obtain ⟨as, r1⟩ := DatV.reads I (by rw [hK]; exact a7.heap sf ra) rx
   obtain ⟨bs, r2⟩ := DatV.reads I (by rw [hK]; exact a7.heap sf rb) ry
   have hs := zT h2
   have hm := x5 (b := a.depth) hs.2
   exact SeqAt.notIn_tuple_reads r2 r1 hs.1 (tH h1) (by omega) fin
 ·cases eg
theorem bB (hK : X.K = c.K) : IxR X (r2D (bR c) (bR c) (c6 c) dIx) := by
 intro value slice pins s σ H v u x y Q I rx ry h hs
 obtain ⟨H0, H1, F, a, b, d, sf, ra, rb, eg, q⟩ := h
 unfold dIx at eg
 split at eg
 ·rename_i xs i
  split at eg
  ·rename_i w hw
   cases eg
   obtain ⟨p, vs, rfl, h1, h2⟩ := a7.lst_of sf ra
   obtain rfl := a7.int_of rb
   obtain ⟨z, h3, h4⟩ := xX h2 hw
   rw [<- hK] at h1
   exact aHH value slice pins s σ H _ _ x y Q I rx ry ⟨p, vs, i, z, rfl, rfl, h1, h3, q _ F H (Ext.refl sf) h4⟩ hs
  ·cases eg
 ·rename_i xs i
  split at eg
  ·rename_i w hw
   cases eg
   obtain ⟨p, vs, rfl, _, h1, h2⟩ := a7.tup_of sf ra
   obtain rfl := a7.int_of rb
   obtain ⟨z, h3, h4⟩ := xX h2 hw
   rw [<- hK] at h1
   exact aKD value slice pins s σ H _ _ x y Q I rx ry ⟨p, vs, i, z, rfl, rfl, h1, h3, q _ F H (Ext.refl sf) h4⟩ hs
  ·cases eg
 ·rename_i z i
  split at eg
  ·rename_i hz
   split at eg
   ·rename_i w hw
    cases eg
    obtain rfl := a7.str_of ra
    obtain rfl := a7.int_of rb
    exact aKE value slice pins s σ H _ _ x y Q I rx ry ⟨z, i, w, rfl, rfl, hz, hw, q _ F H (Ext.refl sf) (.str _)⟩ hs
   ·cases eg
  ·cases eg
 ·cases eg
def tTf (c : Ct) (E : XK) (f : Sg -> R Bool) : TT := fun σ H Q => ∃ ρ F, Ab c ρ σ F H /\ Rk c E F H (f ρ) fun b => ∀ F' H', Ext F H F' H' -> Q b H'
abbrev PTf (X : Cx) (c : Ct) (E : XK) (e : Expr) (f : Sg -> R Bool) : Prop := PT X e (tTf c E f)
def asB : PyData -> R Bool
 | .bool b => .ok b
 | _ => .bad
theorem uS {f : Sg -> R PyData} {σ : L2.St} {H : Hp} {Q : Bool -> Hp -> Prop} (h : tTf c E (e1 asB f) σ H Q) : tV (c6 c) c E f σ H fun x H' => ∃ k, x = .bl k /\ Q k H' := by
 obtain ⟨ρ, F, ab, h⟩ := h
 refine ⟨ρ, F, ab, (Rk.bind h).imp fun d _ q v F' H' s r => ?_⟩
 cases d with
 | bool b => exact ⟨b, DatV.bl_of r, Rk.ok q F' H' s⟩
 | _ => exact False.elim q
theorem dH {op : CmpOp} {g : PyData -> PyData -> R PyData} {fa fb : Sg -> R PyData} (ho : OpR X (compareOp op) (r2D (bR c) (bR c) (c6 c) g)) (hp : dU g) (ha : PR X c E a fa) (hb : PR X c E b fb) (hm : behindInMarks op b = false) : PTf X c E (.Compare a [op] [b] pos) (e1 asB (e2 g fa fb)) :=
 PT.imp (nE ho ha hb hm) fun σ H Q h => tV2 tF hp (pB c) (lB c) (uS h)
theorem jK {f : Sg -> R PyData} (h : PD X c E e f) (he : ∀ whole, isTrue e X.env whole = (do let v <- whole; standAt e.pos; holding [v] (truthy v)) := by intro _; rfl) : PTf X c E e (e1 asB f) :=
 PT.imp (L2.jK h he) fun σ H Q h => uS h
def jO (f g : Sg -> R Bool) : Sg -> R Bool := fun ρ => (f ρ).bind fun b => if b = true then g ρ else .ok false
def bOr (f g : Sg -> R Bool) : Sg -> R Bool := fun ρ => (f ρ).bind fun b => if b = true then .ok true else g ρ
def mZ (f : Sg -> R Bool) : Sg -> R Bool := fun ρ => (f ρ).bind fun b => .ok (!b)
abbrev PWf (X : Cx) (c : Ct) (E : XK) (e : Expr) (f : Sg -> R Bool) : Prop := PW X e (tTf c E f)
theorem PW.imp {X : Cx} {e : Expr} {t t' : TT} (h : PW X e t) (i : ∀ σ H Q, t' σ H Q -> t σ H Q) : PW X e t' := fun whole pins s σ H Q I q => h whole pins s σ H Q I (i σ H Q q)
theorem aOE {f g : Sg -> R Bool} {σ : L2.St} {H : Hp} {Q : Bool -> Hp -> Prop} (h : tTf c E (jO f g) σ H Q) : aJT (tTf c E f) (tTf c E g) σ H Q := by
 obtain ⟨ρ, F, ab, h⟩ := h
 refine ⟨ρ, F, ab, (Rk.bind h).imp fun b _ q F' H' s => ?_⟩
 cases b with
 | true => exact ⟨ρ, F', ab.ext s, (Rk.ext s q).imp fun d _ z F2 H2 s2 => z F2 H2 (s.trans s2)⟩
 | false => exact Rk.ok q F' H' s
theorem tor {f g : Sg -> R Bool} {σ : L2.St} {H : Hp} {Q : Bool -> Hp -> Prop} (h : tTf c E (bOr f g) σ H Q) : tOr (tTf c E f) (tTf c E g) σ H Q := by
 obtain ⟨ρ, F, ab, h⟩ := h
 refine ⟨ρ, F, ab, (Rk.bind h).imp fun b _ q F' H' s => ?_⟩
 cases b with
 | false => exact ⟨ρ, F', ab.ext s, (Rk.ext s q).imp fun d _ z F2 H2 s2 => z F2 H2 (s.trans s2)⟩
 | true => exact Rk.ok q F' H' s
theorem lH {f : Sg -> R Bool} (h : PTf X c E a f) : PWf X c E (.BoolOp .And [a] pos) f := L2.lH h
theorem sM {f : Sg -> R Bool} (h : PTf X c E a f) : PWf X c E (.BoolOp .Or [a] pos) f := L2.sM h
theorem lO {f g : Sg -> R Bool} {rest : List Expr} (h : PTf X c E a f) (h2 : PWf X c E (.BoolOp .And (b :: rest) pos) g) : PWf X c E (.BoolOp .And (a :: b :: rest) pos) (jO f g) := PW.imp (L2.lO h h2) fun _ _ _ q => aOE q
theorem sN {f g : Sg -> R Bool} {rest : List Expr} (h : PTf X c E a f) (h2 : PWf X c E (.BoolOp .Or (b :: rest) pos) g) : PWf X c E (.BoolOp .Or (a :: b :: rest) pos) (bOr f g) := PW.imp (L2.sN h h2) fun _ _ _ q => tor q
theorem nB {f : Sg -> R Bool} (h : PTf X c E a f) : PTf X c E (.UnaryOp .Not a pos) (mZ f) := PT.imp (L2.nB h) fun σ H Q ⟨ρ, F, ab, k⟩ => ⟨ρ, F, ab, (Rk.bind k).imp fun b _ q F' H' s => Rk.ok q F' H' s⟩
noncomputable def aFL (f g : Sg -> R PyData) : Sg -> R PyData := fun ρ => (f ρ).bind fun x => (asB x).bind fun b => if b = true then g ρ else .ok (.bool false)
def eOr (f g : Sg -> R PyData) : Sg -> R PyData := fun ρ => (f ρ).bind fun x => (asB x).bind fun b => if b = true then .ok (.bool true) else g ρ
def aOF (f : Sg -> R PyData) : Sg -> R PyData := fun ρ => (f ρ).bind fun x => (asB x).bind fun b => .ok (.bool (!b))
def eIf {α : Type} (t : Sg -> R Bool) (f g : Sg -> R α) : Sg -> R α := fun ρ => (t ρ).bind fun b => if b = true then f ρ else g ρ
theorem aKW {op} {f : Sg -> R PyData} (h : PD X c E a f) : PD X c E (.BoolOp op [a] pos) f := aJU h
theorem aKX {f g : Sg -> R PyData} {rest : List Expr} (h : PD X c E a f) (h2 : PD X c E (.BoolOp .And (b :: rest) pos) g) : PD X c E (.BoolOp .And (a :: b :: rest) pos) (aFL f g) := PE.imp (aJV h h2) fun σ H Q zz0 => by
 obtain ⟨ρ, F, ab, k⟩ := zz0
 refine ⟨ρ, F, ab, (Rk.bind k).imp fun d _ q v F' H' s r => ?_⟩
 cases d with
 | bool b =>
  refine ⟨b, DatV.bl_of r, ?_⟩
  cases b with
  | true => exact xA ⟨ρ, F', ab.ext s, (Rk.ext s q).imp fun d _ z v F2 H2 s2 => z v F2 H2 (s.trans s2)⟩
  | false => exact w9 (Rk.ok q (.bl false) F' H' s (.bl false))
 | _ => exact False.elim q
theorem aGP {t : Sg -> R Bool} {f g : Sg -> R PyData} {q : Expr} (hq : PTf X c E q t) (h : PD X c E a f) (h2 : PD X c E b g) : PD X c E (.IfExp q a b pos) (eIf t f g) := PE.imp (aES hq h h2) fun σ H Q zz0 => by
 obtain ⟨ρ, F, ab, k⟩ := zz0
 refine ⟨ρ, F, ab, (Rk.bind k).imp fun b _ q F' H' s => ?_⟩
 cases b with
 | true => exact xA ⟨ρ, F', ab.ext s, (Rk.ext s q).imp fun d _ z v F2 H2 s2 => z v F2 H2 (s.trans s2)⟩
 | false => exact w9 ⟨ρ, F', ab.ext s, (Rk.ext s q).imp fun d _ z v F2 H2 s2 => z v F2 H2 (s.trans s2)⟩
noncomputable def eCh (g g' : PyData -> PyData -> R PyData) (fa fb fc : Sg -> R PyData) : Sg -> R PyData := fun ρ => (fa ρ).bind fun x => (fb ρ).bind fun y => (g x y).bind fun z => (asB z).bind fun k => if k = true then (fc ρ).bind fun w => g' y w else .ok (.bool false)
end
end Fl
namespace Fl
open PySem L2 PyProof.Rows
def AFs (g : Gb) (K : Frag) (mg : Str -> Option Value) (F : Hp) : List A -> List V -> Prop
 | [], [] => True
 | a :: as, v :: vs => AF g K mg F a v /\ AFs g K mg F as vs
 | _, _ => False
theorem AFs.same {g : Gb} {K : Frag} {mg : Str -> Option Value} {F F' : Hp} (s : aR F F') : ∀ {as : List A} {vs : List V}, AFs g K mg F as vs -> AFs g K mg F' as vs
 | [], [], _ => trivial
 | a :: as, v :: vs, h => ⟨AF.same s h.1, AFs.same s h.2⟩
theorem AFs.len {g : Gb} {K : Frag} {mg : Str -> Option Value} {F : Hp} : ∀ {as : List A} {vs : List V}, AFs g K mg F as vs -> vs.length = as.length
 | [], [], _ => rfl
 | a :: as, v :: vs, h => by rw [List.length_cons, List.length_cons, AFs.len h.2]
theorem PA.imp {X : Cx} {es : List Expr} {t t' : TA} (h : PA X es t) (i : ∀ σ H Q, t' σ H Q -> t σ H Q) : PA X es t' := fun pos pins s σ H Q I q => h pos pins s σ H Q I (i σ H Q q)
def tAd (c : Ct) (E : XK) (f : Sg -> R (List PyData)) : TA := fun σ H Q => ∃ ρ F, Ab c ρ σ F H /\ Rk c E F H (f ρ) fun ds => ∀ vs F' H', Ext F H F' H' -> DatVs c.K F' vs ds -> Q vs H'
def tAv (c : Ct) (E : XK) (f : Sg -> R (List A)) : TA := fun σ H Q => ∃ ρ F, Ab c ρ σ F H /\ Rk c E F H (f ρ) fun ds => ∀ vs F' H', Ext F H F' H' -> AFs c.g c.K c.mg F' ds vs -> Q vs H'
abbrev PAd (X : Cx) (c : Ct) (E : XK) (es : List Expr) (f : Sg -> R (List PyData)) : Prop := PA X es (tAd c E f)
abbrev PAv (X : Cx) (c : Ct) (E : XK) (es : List Expr) (f : Sg -> R (List A)) : Prop := PA X es (tAv c E f)
noncomputable def aL {α : Type} : Sg -> R (List α) := fun _ => .ok []
def aB {α : Type} (f : Sg -> R α) (g : Sg -> R (List α)) : Sg -> R (List α) := fun ρ => (f ρ).bind fun x => (g ρ).bind fun xs => .ok (x :: xs)
section
variable {X : Cx} {c : Ct} {E : XK} {e a b : Expr} {es : List Expr} {pos : Pos}
theorem bF : PAd X c E [] aL := PA.imp aQ fun σ H Q ⟨ρ, F, ab, k⟩ => Rk.ok k [] F H (Ext.refl ab.fh) .nil
theorem bH : PAv X c E [] aL := PA.imp aQ fun σ H Q ⟨ρ, F, ab, k⟩ => Rk.ok k [] F H (Ext.refl ab.fh) trivial
theorem aM {f : Sg -> R PyData} {g : Sg -> R (List PyData)} (h : PD X c E e f) (h2 : PAd X c E es g) (hs : starEach (e :: es) X.env = (false, eval e X.env) :: starEach es X.env := by rfl) : PAd X c E (e :: es) (aB f g) := PA.imp (aK h h2 hs) fun σ H Q zz0 => by
 obtain ⟨ρ, F, ab, k⟩ := zz0
 refine ⟨ρ, F, ab, (Rk.bind k).imp fun x _ q v F1 H1 s1 r1 => ⟨ρ, F1, ab.ext s1, ((Rk.bind q).ext s1).imp fun xs _ q vs F2 H2 s2 r2 => ?_⟩⟩
 exact Rk.ok q (v :: vs) F2 H2 (s1.trans s2) (.cons (DatV.same s2.ff r1) r2)
theorem aF {f : Sg -> R A} {g : Sg -> R (List A)} (h : PV X c E e f) (h2 : PAv X c E es g) (hs : starEach (e :: es) X.env = (false, eval e X.env) :: starEach es X.env := by rfl) : PAv X c E (e :: es) (aB f g) := PA.imp (aK h h2 hs) fun σ H Q zz0 => by
 obtain ⟨ρ, F, ab, k⟩ := zz0
 refine ⟨ρ, F, ab, (Rk.bind k).imp fun x _ q v F1 H1 s1 r1 => ⟨ρ, F1, ab.ext s1, ((Rk.bind q).ext s1).imp fun xs _ q vs F2 H2 s2 r2 => ?_⟩⟩
 exact Rk.ok q (v :: vs) F2 H2 (s1.trans s2) ⟨AF.same s2.ff r1, r2⟩
def cV (f : Sg -> R (List PyData)) : Sg -> R PyData := fun ρ => (f ρ).bind fun xs => if xs.length <= 16777216 then .ok (.tuple xs) else .bad
def d6 (f : Sg -> R (List PyData)) : Sg -> R (List PyData) := fun ρ => (f ρ).bind fun xs => if xs.length <= 16777216 then .ok xs else .bad
theorem dF : sizeLine = 16777216 := sizeLine_eq
theorem dI {x1} {f : Sg -> R (List PyData)} (h : PAd X c E es f) : PD X c E (.Tuple es x1 pos) (cV f) := PE.imp (aJ9 h) fun σ H Q zz0 => by
 obtain ⟨ρ, F, ab, k⟩ := zz0
 refine ⟨ρ, F, ab, (Rk.bind k).imp fun xs _ q vs F1 H1 s1 r1 => ?_⟩
 by_cases hz : xs.length <= 16777216
 ·rw [if_pos hz] at q
  refine ⟨by rw [r1.length, dF]; exact hz, fun p hp => ?_⟩
  exact Rk.ok q (.ref p) _ _ (s1.trans (Ext.new s1.fh hp)) (.tup (SqT.of aW) (r1.same (aR.upd (cB s1.fh hp))))
 ·rw [if_neg hz] at q; exact q.elim
theorem eK {f : Sg -> R (List PyData)} (h : PAd X c E es f) : PN X c E (.List es pos) (d6 f) := PE.imp (aKA h) fun σ H Q zz0 => by
 obtain ⟨ρ, F, ab, k⟩ := zz0
 refine ⟨ρ, F, ab, (Rk.bind k).imp fun xs _ q vs F1 H1 s1 r1 => ?_⟩
 by_cases hz : xs.length <= 16777216
 ·rw [if_pos hz] at q
  refine ⟨by rw [r1.length, dF]; exact hz, fun p hp => ?_⟩
  exact Rk.ok q (.ref p) _ _ (s1.trans (Ext.own s1.fh hp)) ⟨p, vs, rfl, cB s1.hh hp, aW, cB s1.fh hp, r1⟩
 ·rw [if_neg hz] at q; exact q.elim
noncomputable def dLen : PyData -> R PyData
 | .str z => if z.length <= 16777216 then .ok (.int z.length) else .bad
 | .list xs => .ok (.int xs.length)
 | .tuple xs => .ok (.int xs.length)
 | _ => .bad
theorem aDU : nI dLen := by intro a e h; unfold dLen at h; split at h <;> (try split at h) <;> cases h
theorem d7 {fa : Sg -> R PyData} (hK : X.K = c.K) (h0 : PE X e (tCB (fun xs H Q => ∃ x n, xs = [x] /\ aJ8 X.K x H n /\ Q (.int n) H) (gM (tV (bR c) c E fa) j6))) : PD X c E e (e1 dLen fa) :=
 PE.imp h0 fun σ H Q h => by
  obtain ⟨ρ, F, ab, k⟩ := tV1 (Ra := bR c) wP aDU (lB c) h
  refine ⟨ρ, F, ab, k.imp fun d _ q v F' H' s r => ?_⟩
  obtain ⟨H0, F1, a, d', sf, ra, eg, q⟩ := q v F' H' s r
  unfold dLen at eg
  split at eg
  ·rename_i z
   split at eg
   ·rename_i hz
    cases eg
    obtain rfl := a7.str_of ra
    exact ⟨_, _, rfl, ⟨by rw [dF]; exact hz, rfl⟩, q _ F1 H' (Ext.refl sf) (.int _)⟩
   ·cases eg
  ·cases eg
   obtain ⟨p, vs, rfl, h1, h2⟩ := a7.lst_of sf ra
   rw [<- hK] at h1
   exact ⟨_, vs.length, rfl, .inl ⟨vs, h1, rfl⟩, q _ F1 H' (Ext.refl sf) (by rw [h2.length]; exact .int _)⟩
  ·cases eg
   obtain ⟨p, vs, rfl, _, h1, h2⟩ := a7.tup_of sf ra
   rw [<- hK] at h1
   exact ⟨_, vs.length, rfl, .inr ⟨vs, h1, rfl⟩, q _ F1 H' (Ext.refl sf) (by rw [h2.length]; exact .int _)⟩
  ·cases eg
noncomputable def dTup : PyData -> R PyData
 | .list xs => .ok (.tuple xs)
 | .tuple xs => .ok (.tuple xs)
 | _ => .bad
theorem aDV : nI dTup := by intro a e h; unfold dTup at h; split at h <;> cases h
theorem d8 {fa : Sg -> R PyData} (hK : X.K = c.K) (h0 : PE X e (tCB (fun xs H Q => ∃ p ys, xs = [.ref p] /\ ((SqL X.K H p ys /\ ∀ l, H l = none -> Q (.ref l) (upd H l (.tup ys))) \/ (SqT X.K H p ys /\ Q (.ref p) H))) (gM (tV (bR c) c E fa) j6))) : PD X c E e (e1 dTup fa) :=
 PE.imp h0 fun σ H Q h => by
  obtain ⟨ρ, F, ab, k⟩ := tV1 (Ra := bR c) wP aDV (lB c) h
  refine ⟨ρ, F, ab, k.imp fun d _ q v F' H' s r => ?_⟩
  obtain ⟨H0, F1, a, d', sf, ra, eg, q⟩ := q v F' H' s r
  unfold dTup at eg
  split at eg
  ·cases eg
   obtain ⟨p, vs, rfl, h1, h2⟩ := a7.lst_of sf ra
   rw [<- hK] at h1
   exact ⟨p, vs, rfl, .inl ⟨h1, fun l hl => q _ _ _ (Ext.new sf hl) (.tup (SqT.of aW) (h2.same (aR.upd (cB sf hl))))⟩⟩
  ·cases eg
   obtain ⟨p, vs, rfl, f1, h1, h2⟩ := a7.tup_of sf ra
   rw [<- hK] at h1
   exact ⟨p, vs, rfl, .inr ⟨h1, q _ F1 H' (Ext.refl sf) (.tup f1 h2)⟩⟩
  ·cases eg
noncomputable def aKY : PyData -> R (List PyData)
 | .list xs => .ok xs
 | .tuple xs => .ok xs
 | _ => .bad
noncomputable def dInt : PyData -> R PyData
 | .int i => .ok (.int i)
 | .bool b => .ok (.int (if b = true then 1 else 0))
 | _ => .bad
theorem aDW : nI dInt := by intro a e h; unfold dInt at h; split at h <;> cases h
theorem jF {fa : Sg -> R PyData} (h0 : PE X e (tCB (fun xs H Q => (∃ i, xs = [.int i] /\ Q (.int i) H) \/ ∃ k, xs = [.bl k] /\ Q (.int (if k then 1 else 0)) H) (gM (tV (bR c) c E fa) j6))) : PD X c E e (e1 dInt fa) :=
 PE.imp h0 fun σ H Q h => by
  obtain ⟨ρ, F, ab, k⟩ := tV1 (Ra := bR c) wP aDW (lB c) h
  refine ⟨ρ, F, ab, k.imp fun d _ q v F' H' s r => ?_⟩
  obtain ⟨H0, F1, a, d', sf, ra, eg, q⟩ := q v F' H' s r
  unfold dInt at eg
  split at eg
  ·cases eg
   obtain rfl := a7.int_of ra
   exact .inl ⟨_, rfl, q _ F1 H' (Ext.refl sf) (.int _)⟩
  ·rename_i b
   cases eg
   obtain rfl := a7.bl_of ra
   exact .inr ⟨b, rfl, q _ F1 H' (Ext.refl sf) (by cases b <;> exact .int _)⟩
  ·cases eg
noncomputable def aM0 : List PyData -> Option (List Bool)
 | [] => some []
 | .bool b :: t => (aM0 t).map (b :: ·)
 | _ => none
end
end Fl
namespace Fl
open PySem L2 PyProof.Rows
inductive Fw where
 | nx (ρ : Sg) | bk (ρ : Sg) | ct (ρ : Sg) | rt (a : A)
def i6 (c : Ct) (F : Hp) (D : iR) : Fw -> Prop
 | .nx ρ => ∀ σ' F' H', aR F F' -> Ab c ρ σ' F' H' -> D.nx σ' H'
 | .bk ρ => ∀ σ' F' H', aR F F' -> Ab c ρ σ' F' H' -> D.bk σ' H'
 | .ct ρ => ∀ σ' F' H', aR F F' -> Ab c ρ σ' F' H' -> D.ct σ' H'
 | .rt a => ∀ v F' H', Ext c.F0 c.H0 F' H' -> AF c.g c.K c.mg F' a v -> D.rt v H'
theorem i6.same {c : Ct} {F F1 : Hp} {D : iR} (s : aR F F1) : ∀ {w : Fw}, i6 c F D w -> i6 c F1 D w
 | .nx ρ, h => fun σ' F' H' s' ab => h σ' F' H' (fun a o z => s' a o (s a o z)) ab
 | .bk ρ, h => fun σ' F' H' s' ab => h σ' F' H' (fun a o z => s' a o (s a o z)) ab
 | .ct ρ, h => fun σ' F' H' s' ab => h σ' F' H' (fun a o z => s' a o (s a o z)) ab
 | .rt a, h => h
def tSf (c : Ct) (E : XK) (f : Sg -> R Fw) : TS := fun D σ H => ∃ ρ F, Ab c ρ σ F H /\ Rk c E F H (f ρ) (i6 c F D)
abbrev PSf (X : Cx) (c : Ct) (E : XK) (st : Stmt) (f : Sg -> R Fw) : Prop := PS X st (tSf c E f)
abbrev kT (X : Cx) (c : Ct) (E : XK) (st : List Stmt) (f : Sg -> R Fw) : Prop := PSs X st (tSf c E f)
theorem get_set {α : Type} {l : List α} {i j : Nat} {x y : α} (h : (l.set i x)[j]? = some y) : (i = j /\ y = x /\ i < l.length) \/ (i ≠ j /\ l[j]? = some y) := by
 by_cases e : i = j
 ·subst e
  by_cases hl : i < l.length
  · rw [List.getElem?_set_self hl] at h; exact .inl ⟨rfl, (Option.some.inj h).symm, hl⟩
  · rw [List.getElem?_eq_none_iff.mpr (by rw [List.length_set]; omega)] at h; cases h
 ·rw [List.getElem?_set_ne e] at h; exact .inr ⟨e, h⟩
theorem Ab.setF {c : Ct} {ρ : Sg} {σ : L2.St} {F H : Hp} {i : Nat} {a : A} {v : V} (b : Ab c ρ σ F H) (ha : AO c F H a v) (hn : a.own = true -> ∀ (j : Nat) (a' : A), j ≠ i -> ρ[j]? = some (some a') -> a'.own = true -> σ[j]? ≠ some (some v)) : Ab c (ρ.set i (some a)) (σ.set i (some v)) F H where
 len := by rw [List.length_set, List.length_set]; exact b.len
 fh := b.fh
 slot := fun j a' h => by
  rcases get_set h with ⟨e, q, hl⟩ | ⟨ne, q⟩
  ·subst e
   cases q
   exact ⟨v, List.getElem?_set_self (by rw [<- b.len]; exact hl), ha⟩
  ·rw [List.getElem?_set_ne ne]; exact b.slot j a' q
 apart := fun j k a' b' hjk h1 h2 o1 o2 => by
  rcases get_set h1 with ⟨e, q, hl⟩ | ⟨ne, q⟩
  ·subst e
   cases q
   rcases get_set h2 with ⟨e', q', hl'⟩ | ⟨ne', q'⟩
   ·exact absurd e' hjk
   ·rw [List.getElem?_set_self (by rw [<- b.len]; exact hl), List.getElem?_set_ne ne']
    exact (hn o1 k b' (Ne.symm hjk) q' o2).symm
  ·rcases get_set h2 with ⟨e', q', hl'⟩ | ⟨ne', q'⟩
   ·subst e'
    cases q'
    rw [List.getElem?_set_self (by rw [<- b.len]; exact hl'), List.getElem?_set_ne ne]
    exact hn o2 j a' hjk q o1
   ·rw [List.getElem?_set_ne ne, List.getElem?_set_ne ne']
    exact b.apart j k a' b' hjk q q' o1 o2
 f0 := b.f0
 h0 := b.h0
 n0 := b.n0
 t0 := b.t0
theorem AO.of {c : Ct} {F H : Hp} : ∀ {a : A} {v : V}, AF c.g c.K c.mg F a v -> AO c F H a v := by
 intro a v h
 cases a with
 | d x => exact h
 | x e => exact h
 | g k n G => exact h
 | _ => exact h.elim
theorem AF.notOwn {g : Gb} {K : Frag} {mg : Str -> Option Value} {F : Hp} : ∀ {a : A} {v : V}, AF g K mg F a v -> a.own = false := by
 intro a v h
 cases a with
 | d x => rfl
 | x e => rfl
 | g k n G => rfl
 | _ => exact h.elim
theorem Ab.setA {c : Ct} {ρ : Sg} {σ : L2.St} {F H : Hp} {i : Nat} {a : A} {v : V} (b : Ab c ρ σ F H) (ha : AF c.g c.K c.mg F a v) : Ab c (ρ.set i (some a)) (σ.set i (some v)) F H :=
 b.setF (AO.of ha) fun z => by rw [AF.notOwn ha] at z; cases z
theorem Ab.setN {c : Ct} {ρ : Sg} {σ : L2.St} {F H F' H' : Hp} {i : Nat} {xs : List PyData} {v : V} (b : Ab c ρ σ F H) (e : Ext F H F' H') (h : uR c xs v H F' H') : Ab c (ρ.set i (some (.l xs))) (σ.set i (some v)) F' H' := by
 obtain ⟨p, vs, rfl, h1, h2, h3, h4⟩ := h
 refine (b.ext e).setF ⟨p, vs, rfl, h2, h3, cB b.h0 h1, h4⟩ fun _ j a' _ ha' ho => ?_
 obtain ⟨w, hw, q⟩ := b.slot j a' ha'
 rw [hw]
 intro z
 cases z
 obtain ⟨p', o', e', q1, _⟩ := q.at ho
 cases e'
 rw [h1] at q1
 cases q1
theorem Ab.putO {c : Ct} {ρ : Sg} {σ : L2.St} {F H : Hp} {i : Nat} {a a' : A} {p : Addr} {o : HO} (b : Ab c ρ σ F H) (hi : ρ[i]? = some (some a)) (ho : a.own = true) (hp : σ[i]? = some (some (.ref p))) (ho' : a'.own = true) (hy : AO c F (upd H p o) a' (.ref p)) :
  Ab c (ρ.set i (some a')) σ F (upd H p o) := by
 obtain ⟨v, h1, q⟩ := b.slot i _ hi
 rw [hp] at h1
 cases h1
 obtain ⟨p', o', e', h2, h3, h4⟩ := q.at ho
 cases e'
 have other : ∀ (j : Nat) (a : A) (w : V), j ≠ i -> ρ[j]? = some (some a) -> σ[j]? = some (some w) -> AO c F H a w -> AO c F (upd H p o) a w := by
  intro j a2 w hj ha hw q2
  by_cases own : a2.own = true
  ·refine q2.off fun z => ?_
   subst z
   exact b.apart j i _ _ hj ha hi own ho (by rw [hw, hp])
  ·cases a2 with
   | l zs => exact absurd rfl own
   | m zs => exact absurd rfl own
   | d x => exact q2
   | x e => exact q2
   | g k n f => exact q2
   | k S => exact q2
 exact {
  len := by rw [List.length_set]; exact b.len
  fh := fun a o z => by rw [aG (fun w => by subst w; rw [h3] at z; cases z)]; exact b.fh a o z
  slot := fun j a h => by
   rcases get_set h with ⟨e, q, hl⟩ | ⟨ne, q⟩
   ·subst e
    cases q
    exact ⟨_, hp, hy⟩
   ·obtain ⟨w, hw, q2⟩ := b.slot j a q
    exact ⟨w, hw, other j a w (Ne.symm ne) q hw q2⟩
  apart := fun j k a' b' hjk h1 h2 o1 o2 => by
   rcases get_set h1 with ⟨e, q, hl⟩ | ⟨ne, q⟩
   ·subst e
    cases q
    rcases get_set h2 with ⟨e', q', hl'⟩ | ⟨ne', q'⟩
    ·exact absurd e' hjk
    ·exact b.apart _ k _ b' hjk hi q' ho o2
   ·rcases get_set h2 with ⟨e', q', hl'⟩ | ⟨ne', q'⟩
    ·subst e'
     exact b.apart j _ a' _ hjk q hi o1 ho
    ·exact b.apart j k a' b' hjk q q' o1 o2
  f0 := b.f0
  h0 := fun a o z => by rw [aG (fun w => by subst w; rw [h4] at z; cases z)]; exact b.h0 a o z
  n0 := b.n0
  t0 := b.t0 }
theorem Ab.putL {c : Ct} {ρ : Sg} {σ : L2.St} {F H : Hp} {i : Nat} {xs ys : List PyData} {p : Addr} {vs : List V} (b : Ab c ρ σ F H) (hi : ρ[i]? = some (some (.l xs))) (hp : σ[i]? = some (some (.ref p))) (hy : DatVs c.K F vs ys) :
  Ab c (ρ.set i (some (.l ys))) σ F (upd H p (.lst vs)) := by
 obtain ⟨v, h1, p', us, rfl, h2, h3, h4, h5⟩ := b.slot i _ hi
 rw [hp] at h1
 cases h1
 exact b.putO hi rfl hp rfl ⟨p, vs, rfl, aW, h3, h4, hy⟩
theorem Ab.putM {c : Ct} {ρ : Sg} {σ : L2.St} {F H : Hp} {i : Nat} {kvs kvs' : List (PyData × PyData)} {p : Addr} {es : List Ent} (b : Ab c ρ σ F H) (hi : ρ[i]? = some (some (.m kvs))) (hp : σ[i]? = some (some (.ref p))) (hy : MapRel c.K F es kvs') :
  Ab c (ρ.set i (some (.m kvs'))) σ F (upd H p (fD c.w p es)) := by
 obtain ⟨v, h1, p', us, rfl, h2, h3, h4, h5⟩ := b.slot i _ hi
 rw [hp] at h1
 cases h1
 exact b.putO hi rfl hp rfl ⟨p, es, rfl, aW, h3, h4, hy⟩
theorem Ab.setM {c : Ct} {ρ : Sg} {σ : L2.St} {F H F' H' : Hp} {i : Nat} {kvs : List (PyData × PyData)} {p : Addr} {es : List Ent} (b : Ab c ρ σ F H) (e : Ext F H F' H') (h1 : H p = none) (h2 : H' p = some (fD c.w p es)) (h3 : F' p = none) (h4 : MapRel c.K F' es kvs) : Ab c (ρ.set i (some (.m kvs))) (σ.set i (some (.ref p))) F' H' := by
 refine (b.ext e).setF ⟨p, es, rfl, h2, h3, cB b.h0 h1, h4⟩ fun _ j a' _ ha' ho => ?_
 obtain ⟨w, hw, q⟩ := b.slot j a' ha'
 rw [hw]
 intro z
 cases z
 obtain ⟨p', o', e', q1, _⟩ := q.at ho
 cases e'
 rw [h1] at q1
 cases q1
noncomputable def fz (i : Nat) (ρ : Sg) : Sg := match ρ[i]? with
 | some (some (.l xs)) => ρ.set i (some (.d (.list xs)))
 | _ => ρ
theorem Ab.frz {c : Ct} {ρ : Sg} {σ : L2.St} {F H : Hp} (b : Ab c ρ σ F H) (i : Nat) : ∃ F', aR F F' /\ Ab c (fz i ρ) σ F' H := by
 unfold fz
 split
 ·rename_i xs hi
  obtain ⟨v, hp, p, vs, rfl, h2, h3, h4, h5⟩ := b.slot i _ hi
  have sf : aR F (upd F p (.lst vs)) := aR.upd h3
  refine ⟨upd F p (.lst vs), sf, ?_⟩
  exact {
   len := by rw [List.length_set]; exact b.len
   fh := fun a o z => by
    by_cases w : a = p
    ·subst w; rw [aW] at z; rw [h2]; exact z
    ·rw [aG w] at z; exact b.fh a o z
   slot := fun j a h => by
    rcases get_set h with ⟨e, q, hl⟩ | ⟨ne, q⟩
    ·subst e
     cases q
     exact ⟨_, hp, .lst (SqL.of aW) (h5.same sf)⟩
    ·obtain ⟨w, hw, q2⟩ := b.slot j a q
     refine ⟨w, hw, ?_⟩
     cases a with
     | l zs =>
      obtain ⟨r, ws, e, q1, q2, q3, q4⟩ := q2
      refine ⟨r, ws, e, q1, ?_, q3, q4.same sf⟩
      rw [aG]
      ·exact q2
      ·intro z
       subst z
       exact b.apart j i _ _ (Ne.symm ne) q hi rfl rfl (by rw [hw, hp, e])
     | m kvs =>
      obtain ⟨r, ws, e, q1, q2, q3, q4⟩ := q2
      refine ⟨r, ws, e, q1, ?_, q3, q4.same sf⟩
      rw [aG]
      ·exact q2
      ·intro z
       subst z
       exact b.apart j i _ _ (Ne.symm ne) q hi rfl rfl (by rw [hw, hp, e])
     | d x => exact DatV.same sf q2
     | x e => exact AF.same (g := c.g) (K := c.K) (mg := c.mg) (a := .x e) sf q2
     | g k n f => exact AF.same (g := c.g) (K := c.K) (mg := c.mg) (a := .g k n f) sf q2
     | k S => obtain ⟨S, f, cl, doc, pm, cc, ct, h0, h1, h2, h3, h4⟩ := q2; exact ⟨S, f, cl, doc, pm, cc, ct, h0, h1, sf _ _ h2, sf _ _ h3, h4⟩
   apart := fun j k a' b' hjk h1 h2 o1 o2 => by
    rcases get_set h1 with ⟨e, q, hl⟩ | ⟨ne, q⟩
    ·subst e
     cases q
     cases o1
    ·rcases get_set h2 with ⟨e', q', hl'⟩ | ⟨ne', q'⟩
     ·subst e'
      cases q'
      cases o2
     ·exact b.apart j k a' b' hjk q q' o1 o2
   f0 := fun a o z => sf a o (b.f0 a o z)
   h0 := b.h0
   n0 := fun a z n => by
    by_cases w : a = p
    ·subst w; exact .inl h4
    ·rw [aG w] at n; exact b.n0 a z n
   t0 := b.t0 }
 ·exact ⟨F, cN F, b⟩
noncomputable def aM1 : PyData -> PyData -> R PyData
 | .int i, .int j => .ok (.int (i + j))
 | _, _ => .bad
section
variable {X : Cx} {c : Ct} {E : XK} {e a b : Expr} {st : Stmt} {rest : List Stmt} {pos : Pos}
def sFz (i : Nat) (f : Sg -> R Fw) : Sg -> R Fw := fun ρ => f (fz i ρ)
theorem qI (i : Nat) {f : Sg -> R Fw} (h : PSf X c E st f) : PSf X c E st (sFz i f) := PS.imp h fun D σ H zz0 => by
 obtain ⟨ρ, F, ab, k⟩ := zz0
 obtain ⟨F', s, ab'⟩ := ab.frz i
 refine ⟨fz i ρ, F', ab', ?_⟩
 have k' : Rk c E F H (f (fz i ρ)) (i6 c F D) := k
 cases q : f (fz i ρ) with
 | bad => rw [q] at k'; exact k'
 | ok w => rw [q] at k'; exact i6.same s k'
 | ex e => rw [q] at k'; exact k'
noncomputable def sNx : Sg -> R Fw := fun ρ => .ok (.nx ρ)
def aH (f g : Sg -> R Fw) : Sg -> R Fw := fun ρ => (f ρ).bind fun w => match w with
 | .nx ρ' => g ρ'
 | w => .ok w
theorem dB : kT X c E [] sNx := PSs.imp L2.dB fun D σ H ⟨ρ, F, ab, k⟩ => Rk.ok k σ F H (cN F) ab
theorem aS {f : Sg -> R Fw} (h : PSf X c E st f) : kT X c E [st] f := L2.aS h
theorem aE {f g : Sg -> R Fw} (h : PSf X c E st f) (h2 : kT X c E rest g) : kT X c E (st :: rest) (aH f g) := PSs.imp (L2.aE h h2) fun D σ H zz0 => by
 obtain ⟨ρ, F, ab, k⟩ := zz0
 refine ⟨ρ, F, ab, (Rk.bind k).imp fun w _ q => ?_⟩
 cases w with
 | nx ρ' =>
  intro σ' F' H' s ab'
  refine ⟨ρ', F', ab', ?_⟩
  have q' : Rk c E F H (g ρ') (i6 c F D) := q
  cases eg : g ρ' with
  | bad => rw [eg] at q'; exact q'
  | ok w => rw [eg] at q'; exact i6.same s q'
  | ex e => rw [eg] at q'; exact q'
 | bk ρ' => exact q
 | ct ρ' => exact q
 | rt a => exact q
def bS (f : Sg -> R A) : Sg -> R Fw := fun ρ => (f ρ).bind fun a => .ok (.rt a)
theorem bT {f : Sg -> R A} (h : PV X c E e f) : PSf X c E (.Return (some e) pos) (bS f) := PS.imp (L2.bT h) fun D σ H ⟨ρ, F, ab, k⟩ =>
 ⟨ρ, F, ab, (Rk.bind k).imp fun a _ q v F' H' s r => Rk.ok q v F' H' (ab.all.trans s) r⟩
noncomputable def aM2 : Sg -> R Fw := fun _ => .ok (.rt (.d .none))
def sIf (t : Sg -> R Bool) (f g : Sg -> R Fw) : Sg -> R Fw := fun ρ => (t ρ).bind fun b => if b = true then f ρ else g ρ
theorem Rk.fw {F F1 H H1 : Hp} {D : iR} {r : R Fw} (s : aR F F1) (k : Rk c E F H r (i6 c F D)) : Rk c E F1 H1 r (i6 c F1 D) := by
 cases r with
 | bad => exact k
 | ok w => exact i6.same s k
 | ex e => exact k
theorem eX {q : Expr} {sa sb : List Stmt} {t : Sg -> R Bool} {f g : Sg -> R Fw} (hq : PTf X c E q t) (ha : kT X c E sa f) (hb : kT X c E sb g) : PSf X c E (.If q sa sb pos) (sIf t f g) := PS.imp (L2.eX hq ha hb) fun D σ H zz0 => by
 obtain ⟨ρ, F, ab, k⟩ := zz0
 refine ⟨ρ, F, ab, (Rk.bind k).imp fun b _ q F' H' s => ?_⟩
 cases b with
 | true => exact xA ⟨ρ, F', ab.ext s, Rk.fw s.ff q⟩
 | false => exact w9 ⟨ρ, F', ab.ext s, Rk.fw s.ff q⟩
def bO (i : Nat) (f : Sg -> R A) : Sg -> R Fw := fun ρ => (f ρ).bind fun a => .ok (.nx (ρ.set i (some a)))
theorem aJ {i : Nat} {f : Sg -> R A} (h : PS X st (kS (tV (aFH c) c E f) (jL i))) : PSf X c E st (bO i f) := PS.imp h fun D σ H ⟨ρ, F, ab, k⟩ =>
 ⟨ρ, F, ab, (Rk.bind k).imp fun a _ q v F' H' s r => Rk.ok q _ F' H' s.ff ((ab.ext s).setA r)⟩
def dC (i : Nat) (f : Sg -> R (List PyData)) : Sg -> R Fw := fun ρ => (f ρ).bind fun xs => .ok (.nx (ρ.set i (some (.l xs))))
theorem fA {i : Nat} {f : Sg -> R (List PyData)} (h : PS X st (kS (tV (uR c) c E f) (jL i))) : PSf X c E st (dC i f) := PS.imp h fun D σ H ⟨ρ, F, ab, k⟩ =>
 ⟨ρ, F, ab, (Rk.bind k).imp fun a _ q v F' H' s r => Rk.ok q _ F' H' s.ff (ab.setN s r)⟩
def aGQ (f : Sg -> R A) : Sg -> R Fw := fun ρ => (f ρ).bind fun _ => .ok (.nx ρ)
theorem fN {f : Sg -> R A} (h : PS X st (aBA (tV (aFH c) c E f))) : PSf X c E st (aGQ f) := PS.imp h fun D σ H ⟨ρ, F, ab, k⟩ =>
 ⟨ρ, F, ab, (Rk.bind k).imp fun a _ q v F' H' s r => Rk.ok q _ F' H' s.ff (ab.ext s)⟩
def eI (i : Nat) (f : Sg -> R PyData) : Sg -> R Fw := fun ρ => match ρ[i]? with
 | some (some (.l xs)) => (f ρ).bind fun x => if xs.length < 16777216 then .ok (.nx (ρ.set i (some (.l (xs ++ [x]))))) else .bad
 | _ => .bad
theorem gU {i : Nat} {f : Sg -> R PyData} (hK : X.K = c.K) (h : PS X st (aBA (tBM X.K "list" z5 (j3 i) (gM (tV (c6 c) c E f) j6)))) : PSf X c E st (eI i f) := PS.imp h fun D σ H zz0 => by
 obtain ⟨ρ, F, ab, k⟩ := zz0
 unfold eI at k
 split at k
 ·rename_i xs hi
  obtain ⟨v, hp, p, vs, rfl, h2, h3, h4, h5⟩ := ab.slot i _ hi
  refine ⟨_, hp, .inl ⟨rfl, vs, SqL.of h2⟩, ρ, F, ab, (Rk.bind k).imp fun x _ q u F1 H1 s1 r1 => ?_⟩
  by_cases hz : xs.length < 16777216
  ·rw [if_pos hz] at q
   refine ⟨p, vs, u, rfl, rfl, s1.hh _ _ h2, by rw [h5.length, dF]; exact hz, ?_⟩
   exact Rk.ok q σ F1 _ s1.ff ((ab.ext s1).putL hi hp ((h5.same s1.ff).append (.cons r1 .nil)))
  ·rw [if_neg hz] at q; exact q.elim
 ·exact k.elim
def aOG (i : Nat) (g : PyData -> PyData -> R PyData) (f : Sg -> R PyData) : Sg -> R Fw := fun ρ => (eV i ρ).bind fun x => (f ρ).bind fun y => (g x y).bind fun z => .ok (.nx (ρ.set i (some (.d z))))
end
end Fl
namespace Fl
open PySem L2 PyProof.Rows
def Tg (c : Ct) (g : TG) (fs : PyData -> Sg -> Option Sg) (is : List Nat) : Prop := ∀ (v : V) (x : PyData) (ρ ρ' : Sg) (σ : L2.St) (F H : Hp) (Q : L2.St -> Hp -> Prop), Ab c ρ σ F H -> DatV c.K F v x -> fs x ρ = some ρ' ->
 (∀ σ' : L2.St, σ'.length = σ.length -> (∀ j : Nat, j ∉ is -> σ'[j]? = σ[j]?) -> Ab c ρ' σ' F H -> Q σ' H) -> g v σ H Q
noncomputable def stN (i : Nat) : PyData -> Sg -> Option Sg := fun x ρ => some (ρ.set i (some (.d x)))
theorem bK {c : Ct} (i : Nat) : Tg c (jL i) (stN i) [i] := fun v x ρ ρ' σ F H Q ab r e q => by
 cases e
 exact q _ List.length_set (fun j hj => List.getElem?_set_ne (by intro z; subst z; exact hj (by simp))) (ab.setA (a := .d x) r)
noncomputable def stL : List (PyData -> Sg -> Option Sg) -> List PyData -> Sg -> Option Sg
 | [], [], ρ => some ρ
 | f :: fs, x :: xs, ρ => (f x ρ).bind (stL fs xs)
 | _, _, _ => none
def Tgs (c : Ct) (g : TGs) (fs : List (PyData -> Sg -> Option Sg)) (is : List Nat) : Prop := ∀ (vs : List V) (xs : List PyData) (ρ ρ' : Sg) (σ : L2.St) (F H : Hp) (Q : L2.St -> Hp -> Prop), Ab c ρ σ F H -> DatVs c.K F vs xs -> stL fs xs ρ = some ρ' ->
 (∀ σ' : L2.St, σ'.length = σ.length -> (∀ j : Nat, j ∉ is -> σ'[j]? = σ[j]?) -> Ab c ρ' σ' F H -> Q σ' H) -> g vs σ H Q
theorem lL {c : Ct} : Tgs c aJX [] [] := fun vs xs ρ ρ' σ F H Q ab r e q => by
 cases xs with
 | nil => cases e; exact ⟨by cases r; rfl, q σ rfl (fun _ _ => rfl) ab⟩
 | cons x t => cases e
theorem d9 {c : Ct} {g : TG} {gs : TGs} {f : PyData -> Sg -> Option Sg} {fs : List (PyData -> Sg -> Option Sg)} {is js : List Nat} (h : Tg c g f is) (h2 : Tgs c gs fs js) : Tgs c (aGB g gs) (f :: fs) (is ++ js) := fun vs xs ρ ρ' σ F H Q ab r e q => by
 cases r with
 | nil => cases e
 | cons r1 r2 =>
  rename_i x d vs ds
  have e' : (f d ρ).bind (stL fs ds) = some ρ' := e
  cases e1 : f d ρ with
  | none => rw [e1] at e'; cases e'
  | some ρ1 =>
   rw [e1] at e'
   refine ⟨_, _, rfl, h _ _ ρ ρ1 σ F H _ ab r1 e1 fun σ1 l1 k1 ab1 => h2 _ _ ρ1 ρ' σ1 F H _ ab1 r2 e' fun σ2 l2 k2 ab2 => q σ2 (l2.trans l1) (fun j hj => ?_) ab2⟩
   rw [List.mem_append, not_or] at hj
   exact (k2 j hj.2).trans (k1 j hj.1)
noncomputable def stT (fs : List (PyData -> Sg -> Option Sg)) : PyData -> Sg -> Option Sg := fun x ρ => match x with
 | .tuple xs => stL fs xs ρ
 | _ => none
theorem aAJ : ∀ {fs : List (PyData -> Sg -> Option Sg)} {xs : List PyData} {ρ ρ' : Sg}, stL fs xs ρ = some ρ' -> xs.length = fs.length
 | [], [], _, _, _ => rfl
 | [], _ :: _, _, _, h => by cases h
 | _ :: _, [], _, _, h => by cases h
 | f :: fs, x :: xs, ρ, ρ', h => by
  have h' : (f x ρ).bind (stL fs xs) = some ρ' := h
  cases e : f x ρ with
  | none => rw [e] at h'; cases h'
  | some ρ1 =>
   rw [e] at h'
   have := aAJ (fs := fs) (xs := xs) h'
   simp [this]
theorem nK {c : Ct} {gs : TGs} {fs : List (PyData -> Sg -> Option Sg)} {is : List Nat} {n : Nat} {K : Frag} (hK : K = c.K) (h : Tgs c gs fs is) (hn : fs.length = n) : Tg c (aJY K n gs) (stT fs) is := fun v x ρ ρ' σ F H Q ab r e q => by
 cases x with
 | tuple xs =>
  obtain ⟨a, vs, rfl, h1, h2⟩ := r.tup_of
  subst hK
  exact ⟨a, vs, rfl, h1.same ab.fh, by rw [h2.length, aAJ e, hn], h vs xs ρ ρ' σ F H Q ab h2 e q⟩
 | _ => cases e
structure Yld (K : Frag) (J : It) (F B : Hp) (xs : List PyData) : Prop where
 len : xs.length <= sizeLine
 go : ∀ (i : Nat) F1 H1, aR F F1 -> aR F1 H1 -> aR B H1 -> i < xs.length -> J.go i H1
 yld : ∀ (i : Nat) F1 H1 v H2 x, aR F F1 -> aR F1 H1 -> aR B H1 -> J.yld i H1 v H2 -> xs[i]? = some x -> ∃ F2, Ext F1 H1 F2 H2 /\ DatV K F2 v x
 stop : ∀ F1 H1, aR F F1 -> aR F1 H1 -> aR B H1 -> J.stop xs.length H1
def tI (c : Ct) (E : XK) (f : Sg -> R (List PyData)) : TI := fun σ H Rr => ∃ ρ F, Ab c ρ σ F H /\ Rk c E F H (f ρ) fun xs => ∀ J B F' H', Ext F H F' H' -> aR B H' -> Yld c.K J F' B xs -> Rr J H'
def tI0 (c : Ct) (E : XK) (f : Sg -> R (List PyData)) : TI := fun σ H Rr => ∃ ρ F, Ab c ρ σ F H /\ Rk c E F H (f ρ) fun xs => ∀ J F' H', Ext F H F' H' -> Yld c.K J F' (fun _ => none) xs -> Rr J H'
theorem PI.imp {X : Cx} {tg e : Expr} {t t' : TI} (h : PI X tg e t) (i : ∀ σ H Q, t' σ H Q -> t σ H Q) : PI X tg e t' := fun pins s σ H Q I q => h pins s σ H Q I (i σ H Q q)
abbrev PIf (X : Cx) (c : Ct) (E : XK) (tg e : Expr) (f : Sg -> R (List PyData)) : Prop := PI X tg e (tI c E f)
abbrev PI0 (X : Cx) (c : Ct) (E : XK) (tg e : Expr) (f : Sg -> R (List PyData)) : Prop := PI X tg e (tI0 c E f)
theorem oF {X : Cx} {c : Ct} {E : XK} {tg e : Expr} {f : Sg -> R (List PyData)} (h : PI0 X c E tg e f) : PIf X c E tg e f := PI.imp h fun σ H Q ⟨ρ, F, ab, k⟩ =>
 ⟨ρ, F, ab, k.imp fun xs _ q J F' H' s y => q J (fun _ => none) F' H' s (fun _ _ z => nomatch z) y⟩
def pC {H : Hp} : aR (fun _ => none) H := fun _ _ z => nomatch z
noncomputable def cJ : PyData -> R (List PyData)
 | .list xs => if xs.length <= 16777216 then .ok xs else .bad
 | .tuple xs => if xs.length <= 16777216 then .ok xs else .bad
 | .str z => if z.cps.toList.length <= 16777216 then .ok (z.cps.toList.map fun u => .str ⟨#[u]⟩) else .bad
 | _ => .bad
theorem x6 {K : Frag} {F B H : Hp} {a : Addr} {vs : List V} {xs : List PyData} (hz : xs.length <= 16777216) (hs : ∀ H1, aR F H1 -> aR B H1 -> SqL K H1 a vs) (hd : DatVs K F vs xs) : Yld K (Itl K a) F B xs where
 len := by rw [dF]; exact hz
 go := fun i F1 H1 h1 h2 h3 hi => by
  have q := hs H1 (fun x o z => h2 x o (h1 x o z)) h3
  exact ⟨vs, vs[i]'(by rw [hd.length]; exact hi), q, by simp⟩
 yld := fun i F1 H1 v H2 x h1 h2 h3 y e => by
  obtain ⟨rfl, y⟩ := y
  have q := y vs (hs _ (fun x o z => h2 x o (h1 x o z)) h3)
  obtain ⟨d, e2, r⟩ := hd.get q
  rw [e] at e2
  cases e2
  exact ⟨F1, Ext.refl h2, r.same h1⟩
 stop := fun F1 H1 h1 h2 h3 => ⟨vs, hs H1 (fun x o z => h2 x o (h1 x o z)) h3, by rw [hd.length]; exact Nat.le_refl _⟩
theorem aAK {K : Frag} {F B : Hp} {a : Addr} {vs : List V} {xs : List PyData} (hz : xs.length <= 16777216) (hs : SqT K F a vs) (hd : DatVs K F vs xs) : Yld K (Itt K a) F B xs where
 len := by rw [dF]; exact hz
 go := fun i F1 H1 h1 h2 h3 hi => by
  have q := hs.same (H' := H1) (fun x o z => h2 x o (h1 x o z))
  exact ⟨vs, vs[i]'(by rw [hd.length]; exact hi), q, by simp⟩
 yld := fun i F1 H1 v H2 x h1 h2 h3 y e => by
  obtain ⟨rfl, y⟩ := y
  have q := y vs (hs.same (fun x o z => h2 x o (h1 x o z)))
  obtain ⟨d, e2, r⟩ := hd.get q
  rw [e] at e2
  cases e2
  exact ⟨F1, Ext.refl h2, r.same h1⟩
 stop := fun F1 H1 h1 h2 h3 => ⟨vs, hs.same (fun x o z => h2 x o (h1 x o z)), by rw [hd.length]; exact Nat.le_refl _⟩
theorem aAL {K : Frag} {F B : Hp} {z : Str} (hz : z.cps.toList.length <= 16777216) : Yld K (Its z) F B (z.cps.toList.map fun u => .str ⟨#[u]⟩) where
 len := by rw [dF, List.length_map]; exact hz
 go := fun i F1 H1 h1 h2 h3 hi => by
  rw [List.length_map, Array.length_toList] at hi
  exact hi
 yld := fun i F1 H1 v H2 x h1 h2 h3 y e => by
  obtain ⟨rfl, u, hu, rfl⟩ := y
  rw [List.getElem?_map, Array.getElem?_toList, hu] at e
  cases e
  exact ⟨F1, Ext.refl h2, .str _⟩
 stop := fun F1 H1 h1 h2 h3 => by
  show (z.cps.toList.map _).length = z.cps.size
  rw [List.length_map, Array.length_toList]
section
variable {X : Cx} {c : Ct} {E : XK} {tg e a b : Expr} {pos : Pos}
theorem x8 {f : Sg -> R PyData} (hK : X.K = c.K) (h : PD X c E e f) : PI0 X c E tg e (e1 cJ f) := PI.imp (PI.or (aDA h) (aDH h)) fun σ H Q zz0 => by
 obtain ⟨ρ, F, ab, k⟩ := zz0
 have k' := Rk.bind k
 cases hf : f ρ with
 | bad => rw [hf] at k'; exact k'.elim
 | ex x => rw [hf] at k'; exact .inl ⟨ρ, F, ab, by rw [hf]; exact k'⟩
 | ok d =>
  rw [hf] at k'
  have k2 := Rk.ok k'
  unfold cJ at k2
  split at k2
  ·rename_i xs
   split at k2
   ·rename_i hz
    refine .inl ⟨ρ, F, ab, ?_⟩
    rw [hf]
    intro v F' H' s r
    obtain ⟨p, vs, rfl, h1, h2⟩ := DatV.lst_of r
    refine ⟨p, rfl, .inl ⟨⟨vs, ?_⟩, ?_⟩⟩
    · rw [hK]; exact h1.same s.fh
    · rw [hK]; exact Rk.ok k2 _ F' H' s (x6 (H := H') hz (fun H1 q _ => h1.same q) h2)
   ·exact k2.elim
  ·rename_i xs
   split at k2
   ·rename_i hz
    refine .inl ⟨ρ, F, ab, ?_⟩
    rw [hf]
    intro v F' H' s r
    obtain ⟨p, vs, rfl, h1, h2⟩ := DatV.tup_of r
    refine ⟨p, rfl, .inr ⟨⟨vs, ?_⟩, ?_⟩⟩
    · rw [hK]; exact h1.same s.fh
    · rw [hK]; exact Rk.ok k2 _ F' H' s (aAK hz h1 h2)
   ·exact k2.elim
  ·rename_i z
   split at k2
   ·rename_i hz
    refine .inr ⟨ρ, F, ab, ?_⟩
    rw [hf]
    intro v F' H' s r
    obtain rfl := DatV.str_of r
    exact ⟨z, rfl, Rk.ok k2 _ F' H' s (aAL hz)⟩
   ·exact k2.elim
  ·exact k2.elim
theorem pD {f : Sg -> R PyData} (hK : X.K = c.K) (h : PR X c E e f) : PIf X c E tg e (e1 cJ f) := PI.imp (PI.or (aDA h) (aDH h)) fun σ H Q zz0 => by
 obtain ⟨ρ, F, ab, k⟩ := zz0
 have k' := Rk.bind k
 cases hf : f ρ with
 | bad => rw [hf] at k'; exact k'.elim
 | ex x => rw [hf] at k'; exact .inl ⟨ρ, F, ab, by rw [hf]; exact k'⟩
 | ok d =>
  rw [hf] at k'
  have k2 := Rk.ok k'
  unfold cJ at k2
  split at k2
  ·rename_i xs
   split at k2
   ·rename_i hz
    refine .inl ⟨ρ, F, ab, ?_⟩
    rw [hf]
    intro v F' H' s r
    obtain ⟨p, vs, rfl, h1, h2⟩ := a7.lst_of s.fh r
    refine ⟨p, rfl, .inl ⟨⟨vs, ?_⟩, ?_⟩⟩
    · rw [hK]; exact h1
    · rw [hK]; exact Rk.ok k2 _ H' F' H' s (cN _) (x6 (H := H') hz (fun H1 _ q => h1.same q) h2)
   ·exact k2.elim
  ·rename_i xs
   split at k2
   ·rename_i hz
    refine .inl ⟨ρ, F, ab, ?_⟩
    rw [hf]
    intro v F' H' s r
    obtain ⟨p, vs, rfl, h1, _, h2⟩ := a7.tup_of s.fh r
    refine ⟨p, rfl, .inr ⟨⟨vs, ?_⟩, ?_⟩⟩
    · rw [hK]; exact h1.same s.fh
    · rw [hK]; exact Rk.ok k2 _ H' F' H' s (cN _) (aAK hz h1 h2)
   ·exact k2.elim
  ·rename_i z
   split at k2
   ·rename_i hz
    refine .inr ⟨ρ, F, ab, ?_⟩
    rw [hf]
    intro v F' H' s r
    obtain rfl := a7.str_of r
    exact ⟨z, rfl, Rk.ok k2 _ H' F' H' s (cN _) (aAL hz)⟩
   ·exact k2.elim
  ·exact k2.elim
noncomputable def lV (lo : Int) (n : Nat) : List PyData := (List.range n).map fun i : Nat => .int (lo + i)
def jP (lo hi : Int) : R (List PyData) := if -4611686018427387904 <= lo /\ lo < 4611686018427387904 /\ -4611686018427387904 <= hi /\ hi < 4611686018427387904 /\ hi - lo <= 16777216 then .ok (lV lo (hi - lo).toNat) else .bad
def dD (f : Sg -> R PyData) : Sg -> R (List PyData) := fun ρ => (f ρ).bind fun x => match x with
 | .int j => jP 0 j
 | _ => .bad
def aH3 (f g : Sg -> R PyData) : Sg -> R (List PyData) := fun ρ => (f ρ).bind fun x => (g ρ).bind fun y => match x, y with
 | .int i, .int j => jP i j
 | _, _ => .bad
theorem aDX {K : Frag} {F B : Hp} {lo : Int} {n : Nat} (hz : n <= 16777216) : Yld K (Itr lo n) F B (lV lo n) where
 len := by unfold lV; rw [dF, List.length_map, List.length_range]; exact hz
 go := fun i F1 H1 h1 h2 h3 hi => by unfold lV at hi; rw [List.length_map, List.length_range] at hi; exact hi
 yld := fun i F1 H1 v H2 x h1 h2 h3 y e => by
  obtain ⟨rfl, rfl⟩ := y
  unfold lV at e
  rw [List.getElem?_map] at e
  cases q : (List.range n)[i]? with
  | none => rw [q] at e; cases e
  | some j =>
   rw [q] at e
   cases e
   obtain ⟨hl, hv⟩ := List.getElem?_eq_some_iff.mp q
   rw [List.getElem_range] at hv
   subst hv
   exact ⟨F1, Ext.refl h2, .int _⟩
 stop := fun F1 H1 h1 h2 h3 => by show n <= _; unfold lV; rw [List.length_map, List.length_range]; exact Nat.le_refl _
theorem fO {f : Sg -> R PyData} (h : PI X tg e (aGC (gM (tV (bR c) c E f) j6))) : PI0 X c E tg e (dD f) := PI.imp h fun σ H Q zz0 => by
 obtain ⟨ρ, F, ab, k⟩ := zz0
 refine ⟨ρ, F, ab, (Rk.bind k).imp fun x _ q v F' H' s r => ?_⟩
 cases x with
 | int j =>
  have q' : Rk c E F H (jP 0 j) _ := q
  unfold jP at q'
  split at q'
  ·rename_i hz
   obtain rfl := a7.int_of r
   refine ⟨j, rfl, by omega, by omega, ?_⟩
   have e0 : (j - 0).toNat = j.toNat := by rw [Int.sub_zero]
   rw [<- e0]
   exact Rk.ok q' _ F' H' s (aDX (by omega))
  ·exact q'.elim
 | _ => exact q.elim
end
end Fl
namespace Fl
open PySem L2 PyProof.Rows
noncomputable def fJ (js : List (Option Nat)) (ρ : Sg) : Sg := js.map fun o => o.bind fun j => (ρ[j]?).join
theorem uT {α : Type} {js : List (Option Nat)} {ρ : List (Option α)} {i : Nat} {a : α} (h : (js.map fun o => o.bind fun j => (ρ[j]?).join)[i]? = some (some a)) : ∃ j, js[i]? = some (some j) /\ ρ[j]? = some (some a) := by
 rw [List.getElem?_map] at h
 cases e : js[i]? with
 | none => rw [e] at h; cases h
 | some o =>
  rw [e] at h
  have h' : (o.bind fun j => (ρ[j]?).join) = some a := Option.some.inj h
  cases o with
  | none => cases h'
  | some j =>
   have h2 : (ρ[j]?).join = some a := h'
   cases e2 : ρ[j]? with
   | none => rw [e2] at h2; cases h2
   | some o2 => rw [e2] at h2; have : o2 = some a := h2; subst this; exact ⟨j, rfl, e2⟩
theorem uU {α : Type} {js : List (Option Nat)} {ρ : List (Option α)} {i j : Nat} {a : α} (h : js[i]? = some (some j)) (h2 : ρ[j]? = some (some a)) : (js.map fun o => o.bind fun j => (ρ[j]?).join)[i]? = some (some a) := by
 rw [List.getElem?_map, h]
 show some ((ρ[j]?).join) = _
 rw [h2]; rfl
def uV (js : List (Option Nat)) : Prop := ∀ (i k j : Nat), js[i]? = some (some j) -> js[k]? = some (some j) -> i = k
theorem tJ {js : List (Option Nat)} (h : js.Pairwise fun a b => a = none \/ a ≠ b) : uV js := fun i k j h1 h2 => by
 obtain ⟨l1, e1⟩ := List.getElem?_eq_some_iff.mp h1
 obtain ⟨l2, e2⟩ := List.getElem?_eq_some_iff.mp h2
 rw [List.pairwise_iff_getElem] at h
 rcases Nat.lt_trichotomy i k with q | q | q
 ·rcases h i k l1 l2 q with z | z
  · rw [e1] at z; cases z
  · exact absurd (e1.trans e2.symm) z
 ·exact q
 ·rcases h k i l2 l1 q with z | z
  · rw [e2] at z; cases z
  · exact absurd (e2.trans e1.symm) z
theorem Ab.cap {c : Ct} {ρ : Sg} {σ σ0 : L2.St} {F H : Hp} {js : List (Option Nat)} (b : Ab c ρ σ F H) (ho : uV js) (k : g9 (j8 js σ) σ0) : Ab c (fJ js ρ) σ0 F H where
 len := by rw [k.1]; unfold fJ j8; rw [List.length_map, List.length_map]
 fh := b.fh
 slot := fun i a h => by
  obtain ⟨j, h1, h2⟩ := uT h
  obtain ⟨v, h3, h4⟩ := b.slot j a h2
  exact ⟨v, k.2 i v (uU h1 h3), h4⟩
 apart := fun i i' a a' hne h h' o o' => by
  obtain ⟨j, h1, h2⟩ := uT h
  obtain ⟨j', h1', h2'⟩ := uT h'
  have hj : j ≠ j' := fun z => hne (ho i i' j h1 (by rw [h1', z]))
  obtain ⟨v, h3, _⟩ := b.slot j a h2
  obtain ⟨v', h3', _⟩ := b.slot j' a' h2'
  rw [k.2 i v (uU h1 h3), k.2 i' v' (uU h1' h3'), <- h3, <- h3']
  exact b.apart j j' a a' hj h2 h2' o o'
 f0 := b.f0
 h0 := b.h0
 n0 := b.n0
 t0 := b.t0
noncomputable def R.noEx {α : Type} : R α -> R α
 | .ex _ => .bad
 | r => r
@[simp] theorem R.noEx_ok {α : Type} (a : α) : (R.ok a).noEx = .ok a := id rfl
noncomputable def x9 {α : Type} : Option α -> R α
 | some a => .ok a
 | none => .bad
@[simp] theorem pE {α : Type} (a : α) : x9 (some a) = .ok a := id rfl
noncomputable def compL (fs : PyData -> Sg -> Option Sg) (ft : Sg -> R Bool) (fe : Sg -> R PyData) (ρ0 : Sg) : List PyData -> R (List PyData)
 | [] => .ok []
 | x :: t => (x9 (fs x ρ0)).bind fun ρ1 => (ft ρ1).noEx.bind fun b => if b = true then (fe ρ1).noEx.bind fun y => (compL fs ft fe ρ0 t).bind fun ys => .ok (y :: ys) else compL fs ft fe ρ0 t
theorem oG {fs : PyData -> Sg -> Option Sg} {ft : Sg -> R Bool} {fe : Sg -> R PyData} {ρ0 : Sg} {e : Er} : ∀ {xs : List PyData}, compL fs ft fe ρ0 xs ≠ .ex e
 | [] => fun h => by cases h
 | x :: t => fun h => by
  unfold compL at h
  cases h1 : fs x ρ0 with
  | none => rw [h1] at h; cases h
  | some ρ1 =>
   rw [h1] at h
   have h : ((ft ρ1).noEx.bind fun b => if b = true then (fe ρ1).noEx.bind fun y => (compL fs ft fe ρ0 t).bind fun ys => .ok (y :: ys) else compL fs ft fe ρ0 t) = .ex e := h
   cases h2 : ft ρ1 with
   | bad => rw [h2] at h; cases h
   | ex _ => rw [h2] at h; cases h
   | ok b =>
    rw [h2] at h
    have h : (if b = true then (fe ρ1).noEx.bind fun y => (compL fs ft fe ρ0 t).bind fun ys => .ok (y :: ys) else compL fs ft fe ρ0 t) = .ex e := h
    cases b with
    | false => exact oG (xs := t) h
    | true =>
     have h : ((fe ρ1).noEx.bind fun y => (compL fs ft fe ρ0 t).bind fun ys => .ok (y :: ys)) = .ex e := h
     cases h3 : fe ρ1 with
     | bad => rw [h3] at h; cases h
     | ex _ => rw [h3] at h; cases h
     | ok y =>
      rw [h3] at h
      have h : ((compL fs ft fe ρ0 t).bind fun ys => .ok (y :: ys)) = .ex e := h
      cases h4 : compL fs ft fe ρ0 t with
      | bad => rw [h4] at h; cases h
      | ex e' => exact oG (xs := t) (e := e') h4
      | ok ys => rw [h4] at h; cases h
theorem aB0 {fs : PyData -> Sg -> Option Sg} {ft : Sg -> R Bool} {fe : Sg -> R PyData} {ρ0 : Sg} {x : PyData} {t ys : List PyData} (h : compL fs ft fe ρ0 (x :: t) = .ok ys) :
  ∃ ρ1 b, fs x ρ0 = some ρ1 /\ ft ρ1 = .ok b /\ ((b = true /\ ∃ y zs, fe ρ1 = .ok y /\ compL fs ft fe ρ0 t = .ok zs /\ ys = y :: zs) \/ (b = false /\ compL fs ft fe ρ0 t = .ok ys)) := by
 unfold compL at h
 cases h1 : fs x ρ0 with
 | none => rw [h1] at h; cases h
 | some ρ1 =>
  rw [h1] at h
  have h : ((ft ρ1).noEx.bind fun b => if b = true then (fe ρ1).noEx.bind fun y => (compL fs ft fe ρ0 t).bind fun ys => .ok (y :: ys) else compL fs ft fe ρ0 t) = .ok ys := h
  cases h2 : ft ρ1 with
  | bad => rw [h2] at h; cases h
  | ex _ => rw [h2] at h; cases h
  | ok b =>
   rw [h2] at h
   have h : (if b = true then (fe ρ1).noEx.bind fun y => (compL fs ft fe ρ0 t).bind fun ys => .ok (y :: ys) else compL fs ft fe ρ0 t) = .ok ys := h
   refine ⟨ρ1, b, rfl, h2, ?_⟩
   cases b with
   | false => exact .inr ⟨rfl, h⟩
   | true =>
    refine .inl ⟨rfl, ?_⟩
    have h : ((fe ρ1).noEx.bind fun y => (compL fs ft fe ρ0 t).bind fun ys => .ok (y :: ys)) = .ok ys := h
    cases h3 : fe ρ1 with
    | bad => rw [h3] at h; cases h
    | ex _ => rw [h3] at h; cases h
    | ok y =>
     rw [h3] at h
     have h : ((compL fs ft fe ρ0 t).bind fun ys => .ok (y :: ys)) = .ok ys := h
     cases h4 : compL fs ft fe ρ0 t with
     | bad => rw [h4] at h; cases h
     | ex e' => rw [h4] at h; cases h
     | ok zs => rw [h4] at h; cases h; exact ⟨y, zs, rfl, rfl, rfl⟩
def dJ (js : List (Option Nat)) (fi : Sg -> R (List PyData)) (fs : PyData -> Sg -> Option Sg) (ft : Sg -> R Bool) (fe : Sg -> R PyData) : Sg -> R (List PyData) := fun ρ => (fi ρ).bind fun xs => compL fs ft fe (fJ js ρ) xs
noncomputable def eS : Sg -> R Bool := fun _ => .ok true
section
variable {X : Cx} {c : Ct} {E : XK} {e a b : Expr} {pos : Pos}
theorem dS : L2.PIf X [] (tTf c E eS) := fun pins s σ H Q I ⟨ρ, F, ab, k⟩ => L2.dS pins s σ H Q I (Rk.ok k F H (Ext.refl ab.fh))
theorem aFM {js : List (Option Nat)} {is : List Nat} {σ σ0 σ1 : L2.St} (k : g9 (j8 js σ) σ0) (hl : σ1.length = σ0.length) (h : ∀ j : Nat, j ∉ is -> σ1[j]? = σ0[j]?) (hi : ∀ i ∈ is, js[i]? = some none) : g9 (j8 js σ) σ1 :=
 ⟨hl.trans k.1, fun i v e => by
  by_cases q : i ∈ is
  ·unfold j8 at e
   rw [List.getElem?_map, hi i q] at e
   cases e
  ·rw [h i q]; exact k.2 i v e⟩
theorem v5 {N : List Str} {js : List (Option Nat)} {scope : Scope} {tg elt : Expr} {ifs : List Expr} {fi : Sg -> R (List PyData)} {fs : PyData -> Sg -> Option Sg} {ft : Sg -> R Bool} {fe : Sg -> R PyData} {is : List Nat} (ho : uV js) (hi : ∀ i ∈ is, js[i]? = some none)
  (hb : ∀ (cl : List (Str × Addr)) (C : Addr) (s : Shared) (H0 : Hp) (fp : List Addr), ∃ g, PG (gF X N scope cl C s H0 fp) tg g /\ Tg c g fs is /\ L2.PIf (gF X N scope cl C s H0 fp) ifs (tTf c E0 ft) /\ PD (gF X N scope cl C s H0 fp) c E0 elt fe)
  {σ : L2.St} {H : Hp} {Q : VK} (h : tV (uR c) c E (dJ js fi fs ft fe) σ H Q) : sU X N scope js tg elt ifs (tI c E fi) σ H Q := by
 obtain ⟨ρ, F, ab, k⟩ := h
 refine ⟨ρ, F, ab, (Rk.bind k).imp fun xs _ q J B F1 H1 s1 sb yl => ?_⟩
 cases hc : compL fs ft fe (fJ js ρ) xs with
 | bad => rw [hc] at q; exact q.elim
 | ex e => exact absurd hc oG
 | ok ys =>
  rw [hc] at q
  refine aHJ (n := xs.length) (fun i acc H' => ∃ F', Ext F1 H1 F' H' /\ acc.length <= i /\ ∃ zs rest, DatVs c.K F' acc zs /\ compL fs ft fe (fJ js ρ) (xs.drop i) = .ok rest /\ zs ++ rest = ys) yl.len ⟨F1, Ext.refl s1.fh, Nat.le_refl _, [], ys, .nil, hc, rfl⟩ ?_ ?_ ?_ ?_ ?_
  ·rintro i acc H' _ ⟨F', _, h, _⟩; exact h
  ·rintro i acc H' hlt ⟨F', e1, _⟩
   exact yl.go i F' H' e1.ff e1.fh (fun a o z => e1.hh a o (sb a o z)) hlt
  ·rintro acc H' ⟨F', e1, _⟩
   exact yl.stop F' H' e1.ff e1.fh (fun a o z => e1.hh a o (sb a o z))
  ·rintro i v acc Ha Hb hlt ⟨F', e1, hlen, zs, rest, hd, hr, hz⟩ hy
   obtain ⟨F2, e2, rx⟩ := yl.yld i F' Ha v Hb xs[i] e1.ff e1.fh (fun a o z => e1.hh a o (sb a o z)) hy (List.getElem?_eq_getElem hlt)
   have hdr : xs.drop i = xs[i] :: xs.drop (i + 1) := List.drop_eq_getElem_cons hlt
   rw [hdr] at hr
   obtain ⟨ρ1, bb, hs, ht, hcase⟩ := aB0 hr
   intro cl C s H0 fp
   obtain ⟨g, hg, tg', hif, he⟩ := hb cl C s H0 fp
   refine ⟨g, _, _, hg, hif, he, fun σ0 k0 => ?_⟩
   have ab0 : Ab c (fJ js ρ) σ0 F2 Hb := (ab.ext (s1.trans (e1.trans e2))).cap ho k0
   refine tg' v xs[i] _ ρ1 σ0 F2 Hb _ ab0 rx hs fun σ1 hl1 hk1 ab1 => ⟨aFM k0 hl1 hk1 hi, ρ1, F2, ab1, ?_⟩
   rw [ht]
   intro F3 H3 e3
   rcases hcase with ⟨rfl, y, ws, hy1, hy2, rfl⟩ | ⟨rfl, hy2⟩
   ·refine xA ⟨ρ1, F3, ab1.ext e3, ?_⟩
    rw [hy1]
    intro w F4 H4 e4 rw'
    refine ⟨F4, e1.trans (e2.trans (e3.trans e4)), by rw [List.length_append, List.length_singleton]; omega, zs ++ [y], ws, (hd.same (e2.trans (e3.trans e4)).ff).append (.cons rw' .nil), hy2, by rw [List.append_assoc]; exact hz⟩
   ·exact w9 ⟨F3, e1.trans (e2.trans e3), by omega, zs, rest, hd.same (e2.trans e3).ff, hy2, hz⟩
  ·rintro acc H' ⟨F', e1, _, zs, rest, hd, hr, hz⟩ p hp
   rw [List.drop_length] at hr
   cases hr
   rw [List.append_nil] at hz
   subst hz
   exact Rk.ok q (.ref p) F' _ (s1.trans (e1.trans (Ext.own e1.fh hp))) ⟨p, acc, rfl, cB (s1.trans e1).hh hp, aW, cB e1.fh hp, hd⟩
theorem fW {N : List Str} {js : List (Option Nat)} {scope : Scope} {tg elt : Expr} {ifs : List Expr} {fi : Sg -> R (List PyData)} {fs : PyData -> Sg -> Option Sg} {ft : Sg -> R Bool} {fe : Sg -> R PyData} {is : List Nat} (h : PE X e (sU X N scope js tg elt ifs (tI c E fi))) (ho : js.Pairwise fun a b => a = none \/ a ≠ b) (hi : ∀ i ∈ is, js[i]? = some none)
 (hb : ∀ (cl : List (Str × Addr)) (C : Addr) (s : Shared) (H0 : Hp) (fp : List Addr), ∃ g, PG (gF X N scope cl C s H0 fp) tg g /\ Tg c g fs is /\ L2.PIf (gF X N scope cl C s H0 fp) ifs (tTf c E0 ft) /\ PD (gF X N scope cl C s H0 fp) c E0 elt fe) :
 PN X c E e (dJ js fi fs ft fe) := PE.imp h fun σ H Q q => v5 (tJ ho) hi hb q
theorem uW {i : Nat} {st : Stmt} {N : List Str} {js : List (Option Nat)} {scope : Scope} {tg elt : Expr} {ifs : List Expr} {fi : Sg -> R (List PyData)} {fs : PyData -> Sg -> Option Sg} {ft : Sg -> R Bool} {fe : Sg -> R PyData} {is : List Nat} (h : PS X st (kS (sU X N scope js tg elt ifs (tI c E fi)) (jL i))) (ho : js.Pairwise fun a b => a = none \/ a ≠ b) (hi : ∀ i ∈ is, js[i]? = some none)
 (hb : ∀ (cl : List (Str × Addr)) (C : Addr) (s : Shared) (H0 : Hp) (fp : List Addr), ∃ g, PG (gF X N scope cl C s H0 fp) tg g /\ Tg c g fs is /\ L2.PIf (gF X N scope cl C s H0 fp) ifs (tTf c E0 ft) /\ PD (gF X N scope cl C s H0 fp) c E0 elt fe) :
 PSf X c E st (dC i (dJ js fi fs ft fe)) := fA (PS.imp h fun D σ H q => v5 (tJ ho) hi hb q)
end
noncomputable def kU (fs : PyData -> Sg -> Option Sg) (fb : Sg -> R Fw) : List PyData -> Sg -> R Fw
 | [], ρ => .ok (.nx ρ)
 | x :: t, ρ => (x9 (fs x ρ)).bind fun ρ1 => (fb ρ1).bind fun w => match w with
  | .nx ρ2 => kU fs fb t ρ2
  | .ct ρ2 => kU fs fb t ρ2
  | .bk ρ2 => .ok (.nx ρ2)
  | .rt a => .ok (.rt a)
def gA (fi : Sg -> R (List PyData)) (fs : PyData -> Sg -> Option Sg) (fb : Sg -> R Fw) : Sg -> R Fw := fun ρ => (fi ρ).bind fun xs => kU fs fb xs ρ
section
variable {X : Cx} {c : Ct} {E : XK} {e a b : Expr} {pos : Pos} {st : Stmt}
theorem cX {g : TG} {fi : Sg -> R (List PyData)} {fs : PyData -> Sg -> Option Sg} {is : List Nat} {fb : Sg -> R Fw} (hg : Tg c g fs is) (h : PS X st (aJ0 (tI0 c E fi) g (tSf c E fb))) : PSf X c E st (gA fi fs fb) := PS.imp h fun D σ H zz0 => by
 obtain ⟨ρ, F, ab, k⟩ := zz0
 refine ⟨ρ, F, ab, (Rk.bind k).imp fun xs _ q J F1 H1 s1 yl => ?_⟩
 refine ⟨fun i m σ H => m = xs.length - i /\ i <= xs.length /\ ∃ ρ' F', aR F1 F' /\ Ab c ρ' σ F' H /\ Rk c E F' H (kU fs fb (xs.drop i) ρ') (i6 c F D), ⟨xs.length, by simp, Nat.zero_le _, ρ, F1, cN _, ab.ext s1, Rk.ext s1 q⟩, ?_⟩
 rintro i m σ2 H2 ⟨rfl, hi, ρ2, F2, s2, ab2, k2⟩
 by_cases hlt : i < xs.length
 ·refine .inr ⟨yl.go i F2 H2 s2 ab2.fh pC hlt, fun σ' H' => ∃ ρ' F', aR F1 F' /\ Ab c ρ' σ' F' H' /\ Rk c E F' H' (kU fs fb (xs.drop (i + 1)) ρ') (i6 c F D), fun σ' H' w => ⟨xs.length - (i + 1), by omega, rfl, hlt, w⟩, fun v H3 y => ?_⟩
  obtain ⟨F3, e3, rv⟩ := yl.yld i F2 H2 v H3 xs[i] s2 ab2.fh pC y (List.getElem?_eq_getElem hlt)
  have hdr : xs.drop i = xs[i] :: xs.drop (i + 1) := List.drop_eq_getElem_cons hlt
  rw [hdr] at k2
  unfold kU at k2
  cases h1 : fs xs[i] ρ2 with
  | none => rw [h1] at k2; exact k2.elim
  | some ρ3 =>
   rw [h1] at k2
   refine hg v xs[i] ρ2 ρ3 σ2 F3 H3 _ (ab2.ext e3) rv h1 fun σ3 _ _ ab3 => ⟨ρ3, F3, ab3, ?_⟩
   have k3 : Rk c E F2 H2 (fb ρ3) _ := Rk.bind k2
   cases h2 : fb ρ3 with
   | bad => rw [h2] at k3; exact k3.elim
   | ex e => rw [h2] at k3; exact k3
   | ok w =>
    rw [h2] at k3
    have k4 := Rk.ok k3
    have sF : aR F F3 := fun a o z => e3.ff a o (s2 a o (s1.ff a o z))
    cases w with
    | nx ρ4 => exact fun σ' F' H' s' ab' => ⟨ρ4, F', fun a o z => s' a o (e3.ff a o (s2 a o z)), ab', k4⟩
    | ct ρ4 => exact fun σ' F' H' s' ab' => ⟨ρ4, F', fun a o z => s' a o (e3.ff a o (s2 a o z)), ab', k4⟩
    | bk ρ4 => exact fun σ' F' H' s' ab' => Rk.ok k4 σ' F' H' (fun a o z => s' a o (sF a o z)) ab'
    | rt a => exact fun v F' H' z r => Rk.ok k4 v F' H' z r
 ·have e : i = xs.length := by omega
  subst e
  rw [List.drop_length] at k2
  exact .inl ⟨yl.stop F2 H2 s2 ab2.fh pC, Rk.ok k2 σ2 F2 H2 (fun a o z => s2 a o (s1.ff a o z)) ab2⟩
end
noncomputable def cR (t : Sg -> R Bool) (b : Sg -> R Fw) : Nat -> Sg -> R Fw
 | 0, _ => .bad
 | n + 1, ρ => (t ρ).bind fun k => if k = true then (b ρ).bind fun w => match w with
   | .nx ρ' => cR t b n ρ'
   | .ct ρ' => cR t b n ρ'
   | .bk ρ' => .ok (.nx ρ')
   | .rt a => .ok (.rt a)
  else .ok (.nx ρ)
open Classical in
noncomputable def cD (t : Sg -> R Bool) (b : Sg -> R Fw) : Sg -> R Fw := fun ρ => if h : ∃ n, cR t b n ρ ≠ .bad then cR t b h.choose ρ else .bad
theorem R.bind_mono {α β : Type} {r : R α} {f g : α -> R β} (h : r.bind f ≠ .bad) (hfg : ∀ a, f a ≠ .bad -> g a = f a) : r.bind g = r.bind f := by
 cases r with
 | bad => rfl
 | ex e => rfl
 | ok a => exact hfg a h
theorem kJ {t : Sg -> R Bool} {b : Sg -> R Fw} : ∀ {n m : Nat} {ρ : Sg}, n <= m -> cR t b n ρ ≠ .bad -> cR t b m ρ = cR t b n ρ
 | 0, _, _, _, h => absurd rfl h
 | n + 1, 0, _, hm, _ => absurd hm (by omega)
 | n + 1, m + 1, ρ, hm, h => by
  unfold cR at h ⊢
  refine R.bind_mono h fun k hk => ?_
  cases k with
  | false => rfl
  | true =>
   refine R.bind_mono (r := b ρ) hk fun w hw => ?_
   cases w with
   | nx ρ' => exact kJ (by omega) hw
   | ct ρ' => exact kJ (by omega) hw
   | bk ρ' => rfl
   | rt a => rfl
theorem pF {t : Sg -> R Bool} {b : Sg -> R Fw} {ρ : Sg} {n : Nat} (h : cR t b n ρ ≠ .bad) : cD t b ρ = cR t b n ρ := by
 have hx : ∃ n, cR t b n ρ ≠ .bad := ⟨n, h⟩
 unfold cD
 rw [dif_pos hx]
 have hc := hx.choose_spec
 rcases Nat.le_total n hx.choose with q | q
 · exact kJ q h
 · exact (kJ q hc).symm
theorem pG (t : Sg -> R Bool) (b : Sg -> R Fw) (ρ : Sg) : cD t b ρ = (t ρ).bind fun k => if k = true then (b ρ).bind fun w => match w with
      | .nx ρ' => cD t b ρ'
      | .ct ρ' => cD t b ρ'
      | .bk ρ' => .ok (.nx ρ')
      | .rt a => .ok (.rt a)
    else .ok (.nx ρ) := by
  have key : ∀ n, (∀ k, t ρ = .ok k -> k = true -> ∀ w, b ρ = .ok w -> ∀ ρ', (w = .nx ρ' \/ w = .ct ρ') -> cD t b ρ' = cR t b n ρ') -> cR t b (n + 1) ρ = (t ρ).bind fun k => if k = true then (b ρ).bind fun w => match w with
      | .nx ρ' => cD t b ρ'
      | .ct ρ' => cD t b ρ'
      | .bk ρ' => .ok (.nx ρ')
      | .rt a => .ok (.rt a)
    else .ok (.nx ρ) := by
    intro n h
    unfold cR
    cases ht : t ρ with
    | bad => rfl
    | ex e => rfl
    | ok k =>
      cases k with
      | false => rfl
      | true =>
        show ((b ρ).bind _) = ((b ρ).bind _)
        cases hb : b ρ with
        | bad => rfl
        | ex e => rfl
        | ok w =>
          cases w with
          | nx ρ' => exact (h true ht rfl _ hb ρ' (.inl rfl)).symm
          | ct ρ' => exact (h true ht rfl _ hb ρ' (.inr rfl)).symm
          | bk ρ' => rfl
          | rt a => rfl
  by_cases hx : ∃ n, cR t b n ρ ≠ .bad
  · obtain ⟨n, hn⟩ := hx
    cases n with
    | zero => exact absurd rfl hn
    | succ n =>
      rw [pF hn]
      refine key n fun k ht hk w hb ρ' hw => ?_
      subst hk
      refine pF fun z => hn ?_
      unfold cR
      rw [ht]
      show ((b ρ).bind _) = _
      rw [hb]
      rcases hw with rfl | rfl
      · exact z
      · exact z
  · have h0 : cD t b ρ = .bad := by unfold cD; rw [dif_neg hx]
    rw [h0]
    have hall : ∀ n, cR t b n ρ = .bad := fun n => Classical.byContradiction fun z => hx ⟨n, z⟩
    cases ht : t ρ with
    | bad => rfl
    | ex e => have := hall 1; unfold cR at this; rw [ht] at this; cases this
    | ok k =>
      cases k with
      | false => have := hall 1; unfold cR at this; rw [ht] at this; cases this
      | true =>
        show R.bad = ((b ρ).bind _)
        cases hb : b ρ with
        | bad => rfl
        | ex e => have := hall 1; unfold cR at this; rw [ht] at this; change ((b ρ).bind _) = _ at this; rw [hb] at this; cases this
        | ok w =>
          have nxt : ∀ ρ', (w = .nx ρ' \/ w = .ct ρ') -> cD t b ρ' = .bad := fun ρ' hw => by
            unfold cD
            rw [dif_neg]
            rintro ⟨n, hn⟩
            refine hn ?_
            have := hall (n + 1)
            unfold cR at this
            rw [ht] at this
            change ((b ρ).bind _) = _ at this
            rw [hb] at this
            rcases hw with rfl | rfl <;> exact this
          cases w with
          | nx ρ' => exact (nxt ρ' (.inl rfl)).symm
          | ct ρ' => exact (nxt ρ' (.inr rfl)).symm
          | bk ρ' => have := hall 1; unfold cR at this; rw [ht] at this; change ((b ρ).bind _) = _ at this; rw [hb] at this; cases this
          | rt a => have := hall 1; unfold cR at this; rw [ht] at this; change ((b ρ).bind _) = _ at this; rw [hb] at this; cases this
section
variable {X : Cx} {c : Ct} {E : XK} {st : Stmt}
theorem gL {t : Sg -> R Bool} {fb : Sg -> R Fw} (h : PS X st (aCS (tTf c E t) (tSf c E fb))) : PSf X c E st (cD t fb) := PS.imp h fun D σ H zz0 => by
 obtain ⟨ρ, F, ab, k⟩ := zz0
 have hx : ∃ n, cR t fb n ρ ≠ .bad := Classical.byContradiction fun z => by
  have : cD t fb ρ = .bad := by unfold cD; rw [dif_neg z]
  rw [this] at k
  exact k
 obtain ⟨n, hn⟩ := hx
 rw [pF hn] at k
 refine ⟨fun m σ H => ∃ ρ' F', aR F F' /\ Ab c ρ' σ F' H /\ Rk c E F' H (cR t fb m ρ') (i6 c F D), ⟨n, ρ, F, cN F, ab, k⟩, ?_⟩
 rintro m σ1 H1 ⟨ρ1, F1, s1, ab1, k1⟩
 cases m with
 | zero => exact k1.elim
 | succ m =>
  unfold cR at k1
  refine ⟨ρ1, F1, ab1, (Rk.bind k1).imp fun b _ q F2 H2 e2 => ?_⟩
  have ab2 := ab1.ext e2
  cases b with
  | false => exact w9 (Rk.ok q σ1 F2 H2 (fun a o z => e2.ff a o (s1 a o z)) ab2)
  | true =>
   refine xA ⟨fun σ' H' => ∃ ρ' F', aR F F' /\ Ab c ρ' σ' F' H' /\ Rk c E F' H' (cR t fb m ρ') (i6 c F D), fun σ' H' w => ⟨m, by omega, w⟩, ρ1, F2, ab2, ?_⟩
   have q' : Rk c E F1 H1 (fb ρ1) _ := Rk.bind (r := fb ρ1) q
   cases h2 : fb ρ1 with
   | bad => rw [h2] at q'; exact q'.elim
   | ex e => rw [h2] at q'; exact q'
   | ok w =>
    rw [h2] at q'
    have k4 := Rk.ok q'
    have sF : aR F F2 := fun a o z => e2.ff a o (s1 a o z)
    cases w with
    | nx ρ4 => exact fun σ' F' H' s' ab' => ⟨ρ4, F', fun a o z => s' a o (sF a o z), ab', k4⟩
    | ct ρ4 => exact fun σ' F' H' s' ab' => ⟨ρ4, F', fun a o z => s' a o (sF a o z), ab', k4⟩
    | bk ρ4 => exact fun σ' F' H' s' ab' => Rk.ok k4 σ' F' H' (fun a o z => s' a o (sF a o z)) ab'
    | rt a => exact fun v F' H' z r => Rk.ok k4 v F' H' z r
end
end Fl
namespace Fl
open PySem L2 PyProof.Rows
def spG (K : Frag) (mg : Str -> Option Value) (T F1 : Hp) (n : Nat) (G : List PyData -> R PyData) : Sp := fun vs H Q E => ∃ F ds, aR F1 F /\ aR T F /\ aR F H /\ DatVs K F vs ds /\ ds.length = n /\ match G ds with
 | .bad => False
 | .ok d => ∀ v F' H', Ext F H F' H' -> DatV K F' v d -> Q v H'
 | .ex e => ∀ a C F' H', Ext F H F' H' -> kA K mg F' e a C -> E (.ref C) (some a) H'
def Beh (P : Program) (w : World) (K : Frag) (mg : Str -> Option Value) (base : Heap) (T : Hp) (f : Addr) (F1 : Hp) (k n : Nat) (G : List PyData -> R PyData) : Prop :=
 ∃ fd ps, ps.length = n /\ gN K fd ps [] /\ FnOk P w K mg base (CXe P w) k f fd ps (spG K mg T F1 n G) /\ (PySem.W.keepIn K (.ref f) = true \/ ∃ oc od fd' sl, F1 f = some (FnO f ⟨oc, od, .func fd', sl⟩))
def gOf (P : Program) (w : World) (K : Frag) (mg : Str -> Option Value) (base : Heap) (T : Hp) : Gb := ⟨Beh P w K mg base T, T⟩
def spF (g : Gb) (K : Frag) (mg : Str -> Option Value) (n : Nat) (G : List A -> R A) : Sp := fun vs H Q E => ∃ F as, aR g.T F /\ aR F H /\ AFs g K mg F as vs /\ as.length = n /\ match G as with
 | .bad => False
 | .ok a => ∀ v F' H', Ext F H F' H' -> AF g K mg F' a v -> Q v H'
 | .ex e => ∀ a C F' H', Ext F H F' H' -> kA K mg F' e a C -> E (.ref C) (some a) H'
def aX (P : Program) (w : World) (K : Frag) (mg : Str -> Option Value) (base : Heap) (T : Hp) (k : Nat) (x : Str) (ps : List Str) (G : List A -> R A) : Prop := Calls P w K mg base (CXe P w) k x ps (spF (gOf P w K mg base T) K mg ps.length G)
def aZ (n : Nat) (G : List A -> R A) (f : Sg -> R (List A)) : Sg -> R A := fun ρ => (f ρ).bind fun as => if as.length = n then G as else .bad
theorem cH {X : Cx} {c : Ct} {E : XK} {e : Expr} {n : Nat} {G : List A -> R A} {g : Gb} {K : Frag} {mg : Str -> Option Value} {f : Sg -> R (List A)} (hG : g = c.g) (hK : K = c.K) (hM : mg = c.mg) (h : PE X e (qA (spF g K mg n G) [] E (tAv c E f))) : PV X c E e (aZ n G f) := PE.imp h fun σ H Q zz0 => by
 obtain ⟨ρ, F, ab, k⟩ := zz0
 subst hG hK hM
 refine ⟨ρ, F, ab, (Rk.bind k).imp fun as _ q vs F1 H1 s1 r1 => ?_⟩
 by_cases hn : as.length = n
 ·rw [if_pos hn] at q
  refine ⟨F1, as, fun a o z => s1.ff a o (ab.f0 a o (ab.t0 a o z)), s1.fh, by rw [List.append_nil]; exact r1, hn, ?_⟩
  cases hg : G as with
  | bad => rw [hg] at q; exact q
  | ok a => rw [hg] at q; exact fun v F' H' s r => Rk.ok q v F' H' (s1.trans s) r
  | ex e => rw [hg] at q; exact fun a C F' H' s r => q a C F' H' ((ab.all.trans s1).trans s) r
 ·rw [if_neg hn] at q; exact q.elim
def fnF (n : Nat) (fb : Sg -> R Fw) : List A -> R A := fun as => (fb (as.map some ++ List.replicate (n - as.length) none)).bind fun w => match w with
 | .rt a => .ok a
 | .nx _ => .ok (.d .none)
 | _ => .bad
theorem AFs.get {g : Gb} {K : Frag} {mg : Str -> Option Value} {F : Hp} : ∀ {as : List A} {vs : List V} {i : Nat} {a : A}, AFs g K mg F as vs -> as[i]? = some a -> ∃ v, vs[i]? = some v /\ AF g K mg F a v
 | [], [], _, _, _, h => by simp at h
 | a :: as, v :: vs, 0, _, h, e => by simp at e; subst e; exact ⟨v, rfl, h.1⟩
 | a :: as, v :: vs, i + 1, _, h, e => by
  obtain ⟨w, h1, h2⟩ := AFs.get (i := i) h.2 (by simpa using e)
  exact ⟨w, by simpa using h1, h2⟩
theorem pH {α : Type} {as : List α} {n i : Nat} {a : α} (h : (as.map some ++ List.replicate n none)[i]? = some (some a)) : as[i]? = some a := by
 by_cases hi : i < as.length
 ·rw [List.getElem?_append_left (by rw [List.length_map]; exact hi), List.getElem?_map] at h
  cases e : as[i]? with
  | none => rw [e] at h; cases h
  | some b => rw [e] at h; cases h; rfl
 ·rw [List.getElem?_append_right (by rw [List.length_map]; omega), List.getElem?_replicate] at h
  split at h
  · cases h
  · cases h
theorem yA {g : Gb} {cells : List (Str × Addr)} {cls : Str -> Option ClSt} {K : Frag} {mg : Str -> Option Value} {w : World} {F H : Hp} {as : List A} {vs : List V} {n : Nat} (s0 : aR g.T F) (s : aR F H) (h : AFs g K mg F as vs) : Ab ⟨K, mg, w, F, H, g, cells, cls⟩ (as.map some ++ List.replicate (n - as.length) none) (vs.map some ++ List.replicate (n - vs.length) none) F H where
 len := by rw [List.length_append, List.length_append, List.length_map, List.length_map, List.length_replicate, List.length_replicate, h.len]
 fh := s
 slot := fun i a e => by
  obtain ⟨v, h1, h2⟩ := h.get (pH e)
  refine ⟨v, ?_, AO.of h2⟩
  have hi : i < vs.length := (List.getElem?_eq_some_iff.mp h1).1
  rw [List.getElem?_append_left (by rw [List.length_map]; exact hi), List.getElem?_map, h1]; rfl
 apart := fun i j a b _ e1 _ o _ => by
  obtain ⟨v, h1, h2⟩ := h.get (pH e1)
  rw [AF.notOwn h2] at o
  cases o
 f0 := cN F
 h0 := cN H
 n0 := fun a e n => absurd e n
 t0 := s0
theorem qJ {g : Gb} {cells : List (Str × Addr)} {cls : Str -> Option ClSt} {K : Frag} {mg : Str -> Option Value} {w : World} {n : Nat} {fb : Sg -> R Fw} {vs : List V} {as : List A} {F H : Hp} {Q : VK} {E : XK} (h0 : aR g.T F) (h1 : aR F H) (h2 : AFs g K mg F as vs) (h4 : match fnF n fb as with
 | .bad => False
 | .ok a => ∀ v F' H', Ext F H F' H' -> AF g K mg F' a v -> Q v H'
 | .ex e => ∀ a C F' H', Ext F H F' H' -> kA K mg F' e a C -> E (.ref C) (some a) H') : tSf ⟨K, mg, w, F, H, g, cells, cls⟩ E fb { nx := fun _ H' => Q .non H', rt := Q } (vs.map some ++ List.replicate (n - vs.length) none) H := by
 refine ⟨_, F, yA h0 h1 h2, ?_⟩
 unfold fnF at h4
 cases e : fb (as.map some ++ List.replicate (n - as.length) none) with
 | bad => rw [e] at h4; exact h4
 | ex x => rw [e] at h4; exact h4
 | ok w =>
  rw [e] at h4
  cases w with
  | nx ρ' => exact fun σ' F' H' s ab => h4 .non F' H' ab.all .non
  | rt a => exact h4
  | bk ρ' => exact h4.elim
  | ct ρ' => exact h4.elim
section
variable {P : Program} {w : World} {K : Frag} {mg : Str -> Option Value} {base : Heap} {T : Hp} {x : Str} {st : Stmt} {N ps : List Str} {k : Nat}
theorem cY {fb : Sg -> R Fw} (D : DefAt K mg x st ps) (S : FnScope N ps (aO st))
  (hbody : ∀ (f : Addr) (cdv : Value) (A : Around) (outer : List Env) (s : Shared) (H F : Hp) (E : XK), Room k (A.deeper (envOfC x (aO st) s.heap.objs.size f cdv)) ->
   kT ((jM (CXe P w) P w K mg base N x (aO st) f cdv A outer s H E).fly E) ⟨K, mg, w, F, H, gOf P w K mg base T, (envOfC x (aO st) s.heap.objs.size f cdv).cells, fun _ => none⟩ E (c8 st) fb) : aX P w K mg base T (k + 1) x ps (fnF N.length fb) := by
 refine D.okX S (fun vs H Q E h => ?_) (fun f cdv A outer s H vs Q E hr h => ?_)
 ·obtain ⟨F, as, _, _, h2, h3, _⟩ := h
  rw [h2.len, h3]
 ·obtain ⟨F, as, h0, h1, h2, h3, h4⟩ := h
  exact ⟨_, hbody f cdv A outer s H F E hr, qJ h0 h1 h2 h4⟩
end
def tK (cn : Str) (fs : List Str) (f : Sg -> R (List PyData)) : Sg -> R Fw := fun ρ => (f ρ).bind fun xs => if xs.length = fs.length then .ex ⟨cn, fs.zip xs⟩ else .bad
theorem uX {α β : Type} : ∀ {xs : List α} {ys : List β}, ys.length = xs.length -> (xs.zip ys).map (·.1) = xs
 | [], _, _ => by simp
 | x :: xs, [], h => by simp at h
 | x :: xs, y :: ys, h => by simp at h; simp [uX h]
theorem uY {α β : Type} : ∀ {xs : List α} {ys : List β}, ys.length = xs.length -> (xs.zip ys).map (·.2) = ys
 | [], [], _ => by simp
 | [], _ :: _, h => by simp at h
 | x :: xs, [], h => by simp at h
 | x :: xs, y :: ys, h => by simp at h; simp [uY h]
theorem rP {X : Cx} {c : Ct} {E : XK} {st : Stmt} {cn : Str} {C : Addr} {fs : List Str} {f : Sg -> R (List PyData)} (hm : c.mg cn = some (.ref C)) (hl : fs.length <= 1000) (h : PS X st (xH C (spI C fs) E (tAd c E f))) : PSf X c E st (tK cn fs f) := PS.imp h fun D σ H zz0 => by
 obtain ⟨ρ, F, ab, k⟩ := zz0
 refine ⟨ρ, F, ab, (Rk.bind k).imp fun xs _ q vs F1 H1 s1 r1 => ?_⟩
 by_cases hn : xs.length = fs.length
 ·rw [if_pos hn] at q
  have hv : vs.length = fs.length := by rw [r1.length, hn]
  refine aBO hv (by rw [hv]; exact hl) fun e d he hd hne => ?_
  have s2 : Ext F1 H1 (upd F1 e (ExO e C (some d))) (upd H1 e (ExO e C (some d))) := Ext.new s1.fh he
  have s3 : Ext _ _ (upd (upd F1 e (ExO e C (some d))) d (.xd (fs.zip vs))) (upd (upd H1 e (ExO e C (some d))) d (.xd (fs.zip vs))) := Ext.new s2.fh (by rw [aG hne]; exact hd)
  refine q e C _ _ ((ab.all.trans s1).trans (s2.trans s3)) ⟨hm, some d, ?_, .inr ⟨d, fs.zip vs, rfl, aW, ?_, ?_⟩⟩
  ·rw [aG (Ne.symm hne), aW]
  ·show _ = (fs.zip xs).map (·.1)
   rw [uX hv, uX hn]
  ·show DatVs _ _ _ ((fs.zip xs).map (·.2))
   rw [uY hv, uY hn]
   exact r1.same (s2.trans s3).ff
 ·rw [if_neg hn] at q; exact q.elim
end Fl
namespace Fl
open PySem L2 PyProof.Rows
def tPf (c : Ct) (E : XK) (f : Sg -> R (Option Int)) : TO := fun σ H Q => ∃ ρ F, Ab c ρ σ F H /\ Rk c E F H (f ρ) fun o => ∀ F' H', Ext F H F' H' -> Q o H'
noncomputable def oNo : Sg -> R (Option Int) := fun _ => .ok none
def oSo (f : Sg -> R PyData) : Sg -> R (Option Int) := fun ρ => (f ρ).bind fun x => match x with
 | .int i => .ok (some i)
 | _ => .bad
noncomputable def pI {α : Type} (xs : List α) (lo hi : Option Int) : List α := (xs.drop (HT.sIx xs.length 0 lo)).take (HT.sIx xs.length xs.length hi - HT.sIx xs.length 0 lo)
noncomputable def dSl : PyData -> Option Int -> Option Int -> R PyData
 | .list xs, lo, hi => .ok (.list (pI xs lo hi))
 | .tuple xs, lo, hi => if ¬ (HT.sIx xs.length 0 lo = 0 /\ HT.sIx xs.length xs.length hi = xs.length) then .ok (.tuple (pI xs lo hi)) else .bad
 | .str z, lo, hi => if z.length <= 16777216 then .ok (.str (Txt.slice z lo hi)) else .bad
 | _, _, _ => .bad
def eSl {α : Type} (g : PyData -> Option Int -> Option Int -> R α) (f : Sg -> R PyData) (lo hi : Sg -> R (Option Int)) : Sg -> R α := fun ρ => (f ρ).bind fun x => (lo ρ).bind fun l => (hi ρ).bind fun h => g x l h
theorem yB {K : Frag} {F : Hp} {vs : List V} {xs : List PyData} (h : DatVs K F vs xs) (lo hi : Option Int) : DatVs K F (o4 vs lo hi) (pI xs lo hi) := by
 unfold o4 pI
 rw [h.length]
 exact (h.drop _).take _
theorem PO.imp {X : Cx} {e : Option Expr} {t t' : TO} (h : PO X e t) (i : ∀ σ H Q, t' σ H Q -> t σ H Q) : PO X e t' := fun pins s σ H Q I q => h pins s σ H Q I (i σ H Q q)
section
variable {X : Cx} {c : Ct} {E : XK} {e a b : Expr} {pos p2 : Pos} {lo hi : Option Expr}
theorem oH : PO X none (tPf c E oNo) := PO.imp aHD fun σ H Q ⟨ρ, F, ab, k⟩ => Rk.ok k F H (Ext.refl ab.fh)
theorem oI {f : Sg -> R PyData} (h : PR X c E e f) : PO X (some e) (tPf c E (oSo f)) := PO.imp (aHE h) fun σ H Q ⟨ρ, F, ab, k⟩ => ⟨ρ, F, ab, (Rk.bind k).imp fun x _ q v F' H' s r => by
 cases x with
 | int i => exact ⟨i, a7.int_of r, Rk.ok q F' H' s⟩
 | _ => exact q.elim⟩
def aKZ (c : Ct) {α : Type} (Rb : VR α) (g : PyData -> Option Int -> Option Int -> R α) : V -> Option Int -> Option Int -> Hp -> VK -> Prop := fun v lo hi H Q => ∃ F x d, aR F H /\ a7 c.K F H v x /\ g x lo hi = .ok d /\ ∀ w F' H', Ext F H F' H' -> Rb d w H F' H' -> Q w H'
theorem aM3 (hK : X.K = c.K) : SlR X (aKZ c (c6 c) dSl) := by
 intro pins s σ H v x vl vu lo hi sl Q I rx hs pl pu h
 obtain ⟨F, d, w, sf, ra, eg, q⟩ := h
 unfold dSl at eg
 split at eg
 ·cases eg
  obtain ⟨p, vs, rfl, h1, h2⟩ := a7.lst_of sf ra
  rw [<- hK] at h1
  exact aHI pins s σ H _ x vl vu lo hi sl Q I rx hs pl pu ⟨p, vs, rfl, h1, fun l hl => q _ _ _ (Ext.new sf hl) (.lst (SqL.of aW) ((yB h2 lo hi).same (aR.upd (cB sf hl))))⟩
 ·rename_i xs _ _
  split at eg
  ·rename_i hw
   cases eg
   obtain ⟨p, vs, rfl, _, h1, h2⟩ := a7.tup_of sf ra
   rw [<- hK] at h1
   exact aKC pins s σ H _ x vl vu lo hi sl Q I rx hs pl pu ⟨p, vs, rfl, h1, by rw [h2.length]; exact hw, fun l hl => q _ _ _ (Ext.new sf hl) (.tup (SqT.of aW) ((yB h2 lo hi).same (aR.upd (cB sf hl))))⟩
  ·cases eg
 ·split at eg
  ·rename_i hz
   cases eg
   obtain rfl := a7.str_of ra
   exact aKJ pins s σ H _ x vl vu lo hi sl Q I rx hs pl pu ⟨_, rfl, by rw [dF]; exact hz, q _ F H (Ext.refl sf) (.str _)⟩
  ·cases eg
 ·cases eg
theorem aH4 {α : Type} {Rb : VR α} {g : PyData -> Option Int -> Option Int -> R α} (hp : ∀ x l h e, g x l h ≠ .ex e) (kb : xW Rb) {f : Sg -> R PyData} {fl fh : Sg -> R (Option Int)} {σ : L2.St} {H : Hp} {Q : VK} (h : tV Rb c E (eSl g f fl fh) σ H Q) :
  tSl (aKZ c Rb g) (tV (bR c) c E f) (tPf c E fl) (tPf c E fh) σ H Q := by
 obtain ⟨ρ, F, ab, k⟩ := h
 refine ⟨ρ, F, ab, (Rk.bind k).imp fun x _ q v F1 H1 s1 r1 => ⟨ρ, F1, ab.ext s1, ((Rk.bind q).ext s1).imp fun l _ q F2 H2 s2 => ⟨ρ, F2, ab.ext (s1.trans s2), ((Rk.bind q).ext (s1.trans s2)).imp fun hh _ q F3 H3 s3 => ?_⟩⟩⟩
 cases eg : g x l hh with
 | bad => rw [eg] at q; exact q.elim
 | ex e => exact absurd eg (hp x l hh e)
 | ok d =>
  rw [eg] at q
  have s13 := (s1.trans s2).trans s3
  exact ⟨F3, x, d, s3.fh, a7.ext (s2.trans s3) r1, eg, fun w F' H' s r => Rk.ok q w F' H' (s13.trans s) (kb _ _ _ _ _ _ s13.hh r)⟩
theorem aFN : ∀ x l h e, dSl x l h ≠ .ex e := by intro x l h e q; unfold dSl at q; split at q <;> (try split at q) <;> cases q
theorem i7 {f : Sg -> R PyData} {fl fh : Sg -> R (Option Int)} (hK : X.K = c.K) (he : PR X c E e f) (hl : PO X lo (tPf c E fl)) (hh : PO X hi (tPf c E fh)) : PD X c E (.Subscript e (.Slice lo hi none p2) pos) (eSl dSl f fl fh) :=
 PE.imp (aEY (aM3 hK) he hl hh) fun σ H Q h => aH4 aFN (lB c) h
noncomputable def tyN : PyData -> String
 | .none => "NoneType"
 | .bool _ => "bool"
 | .int _ => "int"
 | .str _ => "str"
 | .list _ => "list"
 | .tuple _ => "tuple"
 | .dict _ => "dict"
noncomputable def i8 (t T : String) : Bool := t == T || (T == "int" && t == "bool")
noncomputable def gQ (T : String) (x : PyData) : R PyData := match x with
 | .dict _ => .bad
 | x => .ok (.bool (i8 (tyN x) T))
structure Kit (K : Frag) (T : String) : Prop where
 non : PySem.W.kitOne K (.type "NoneType") (.type T) = some (i8 "NoneType" T)
 bl : PySem.W.kitOne K (.type "bool") (.type T) = some (i8 "bool" T)
 int : PySem.W.kitOne K (.type "int") (.type T) = some (i8 "int" T)
 str : PySem.W.kitOne K (.type "str") (.type T) = some (i8 "str" T)
 lst : PySem.W.kitOne K (.type "list") (.type T) = some (i8 "list" T)
 tup : PySem.W.kitOne K (.type "tuple") (.type T) = some (i8 "tuple" T)
theorem aAM (K : Frag) : Kit K "int" := ⟨rfl, rfl, rfl, rfl, rfl, rfl⟩
theorem uZ (K : Frag) : Kit K "str" := ⟨rfl, rfl, rfl, rfl, rfl, rfl⟩
theorem aFO {X : Cx} : iX X (.builtin "isinstance") (fun xs H Q => ∃ a ys c cv b, xs = [.ref a, c] /\ SqL X.K H a ys /\ aBN c = some cv /\ PySem.W.kitOne X.K (.type "list") cv = some b /\ Q (.bl b) H) := by
 intro pins s σ H xs us Q I r h
 obtain ⟨a, ys, c, cv, b, rfl, ha, hc, e, q⟩ := h
 obtain ⟨u, v, rfl, ru, rv⟩ := sQ r
 obtain rfl := uN hc rv
 cases (show u = Value.ref a from ru)
 obtain ⟨its, _, pl, _⟩ := I.list ha
 obtain ⟨o, h1, h2, _⟩ := pl.isList
 exact PySem.W.kia_one PySem.W.kitx_list I.kIn ⟨o, h1, h2⟩ e (fun z => nomatch z) fun tk => ⟨.bl b, H, I.tok _, rfl, q⟩
def aFP (c : Ct) (T : String) : List V -> Hp -> VK -> Prop := fun xs H Q => ∃ F x v d, xs = [v, .ty T] /\ aR F H /\ a7 c.K F H v x /\ gQ T x = .ok d /\ ∀ w F' H', Ext F H F' H' -> DatV c.K F' w d -> Q w H'
theorem lX (hK : X.K = c.K) {T : String} (k : Kit X.K T) : iX X (.builtin "isinstance") (aFP c T) := by
 intro pins s σ H xs us Q I r h
 obtain ⟨F, x, v, d, rfl, sf, ra, eg, q⟩ := h
 cases x with
 | dict _ => cases eg
 | none =>
  cases eg
  obtain rfl := a7.non_of ra
  exact kI pins s σ H _ us Q I r ⟨_, _, _, _, _, rfl, .pl .non, rfl, k.non, q _ F H (Ext.refl sf) (.bl _)⟩
 | bool b =>
  cases eg
  obtain rfl := a7.bl_of ra
  exact kI pins s σ H _ us Q I r ⟨_, _, _, _, _, rfl, .pl (.bl b), rfl, k.bl, q _ F H (Ext.refl sf) (.bl _)⟩
 | int b =>
  cases eg
  obtain rfl := a7.int_of ra
  exact kI pins s σ H _ us Q I r ⟨_, _, _, _, _, rfl, .pl (.int b), rfl, k.int, q _ F H (Ext.refl sf) (.bl _)⟩
 | str b =>
  cases eg
  obtain rfl := a7.str_of ra
  exact kI pins s σ H _ us Q I r ⟨_, _, _, _, _, rfl, .pl (.str b), rfl, k.str, q _ F H (Ext.refl sf) (.bl _)⟩
 | tuple xs =>
  cases eg
  obtain ⟨p, vs, rfl, _, h1, h2⟩ := a7.tup_of sf ra
  rw [<- hK] at h1
  exact xJ pins s σ H _ us Q I r ⟨p, vs, _, _, _, rfl, h1, rfl, k.tup, q _ F H (Ext.refl sf) (.bl _)⟩
 | list xs =>
  cases eg
  obtain ⟨p, vs, rfl, h1, h2⟩ := a7.lst_of sf ra
  rw [<- hK] at h1
  exact aFO pins s σ H _ us Q I r ⟨p, vs, _, _, _, rfl, h1, rfl, k.lst, q _ F H (Ext.refl sf) (.bl _)⟩
theorem pJ {T : String} {f : Sg -> R PyData} (h : PE X e (tCB (aFP c T) (gM (tV (bR c) c E f) (gM (tC (.ty T)) j6)))) : PD X c E e (e1 (gQ T) f) := PE.imp h fun σ H Q zz0 => by
 obtain ⟨ρ, F, ab, k⟩ := zz0
 refine ⟨ρ, F, ab, (Rk.bind k).imp fun x _ q v F1 H1 s1 r1 => ?_⟩
 show aFP c T [v, .ty T] H1 Q
 cases x with
 | dict _ => exact q.elim
 | none => exact ⟨F1, _, v, _, rfl, s1.fh, r1, rfl, fun w F' H' s r => Rk.ok q w F' H' (s1.trans s) r⟩
 | bool _ => exact ⟨F1, _, v, _, rfl, s1.fh, r1, rfl, fun w F' H' s r => Rk.ok q w F' H' (s1.trans s) r⟩
 | int _ => exact ⟨F1, _, v, _, rfl, s1.fh, r1, rfl, fun w F' H' s r => Rk.ok q w F' H' (s1.trans s) r⟩
 | str _ => exact ⟨F1, _, v, _, rfl, s1.fh, r1, rfl, fun w F' H' s r => Rk.ok q w F' H' (s1.trans s) r⟩
 | list _ => exact ⟨F1, _, v, _, rfl, s1.fh, r1, rfl, fun w F' H' s r => Rk.ok q w F' H' (s1.trans s) r⟩
 | tuple _ => exact ⟨F1, _, v, _, rfl, s1.fh, r1, rfl, fun w F' H' s r => Rk.ok q w F' H' (s1.trans s) r⟩
noncomputable def oJ : List PyData -> Option (List Str)
 | [] => some []
 | .str s :: t => (oJ t).map (s :: ·)
 | _ => none
theorem nG {K : Frag} {F : Hp} : ∀ {vs : List V} {xs : List PyData} {ys : List Str}, DatVs K F vs xs -> oJ xs = some ys -> vs = ys.map V.str
 | _, _, ys, .nil, e => by cases e; rfl
 | _, _, ys, .cons (d := d) (ds := t) h h2, e => by
  cases d with
  | str b =>
   unfold oJ at e
   cases q : oJ t with
   | none => rw [q] at e; cases e
   | some cs =>
    rw [q] at e
    cases e
    rw [nG h2 q, h.str_of]; rfl
  | _ => cases e
noncomputable def wR : PyData -> PyData -> R PyData
 | .str sep, .list xs => match oJ xs with
  | some ys => if (ys.map fun y => y.length).sum + ys.length * sep.length <= 16777216 then .ok (.str (Txt.join sep ys)) else .bad
  | none => .bad
 | _, _ => .bad
theorem aH5 {f g : Sg -> R PyData} (hK : X.K = c.K) (h : PE X e (tBM X.K "str" (aGJ X.K) (tV (bR c) c E f) (gM (tV (bR c) c E g) j6))) (hs : ∀ ρ x, f ρ = .ok x -> ∃ z, x = .str z) : PD X c E e (e2 wR f g) := PE.imp h fun σ H Q zz0 => by
 obtain ⟨ρ, F, ab, k⟩ := zz0
 refine ⟨ρ, F, ab, (Rk.bind k).imp fun x ex q v F1 H1 s1 r1 => ?_⟩
 obtain ⟨z, rfl⟩ := hs ρ x ex
 obtain rfl := a7.str_of r1
 refine ⟨rfl, ρ, F1, ab.ext s1, ((Rk.bind q).ext s1).imp fun y _ q u F2 H2 s2 r2 => ?_⟩
 cases y with
 | list xs =>
  have q' : Rk c E F H (match oJ xs with
   | some ys => if (ys.map fun y => y.length).sum + ys.length * z.length <= 16777216 then R.ok (PyData.str (Txt.join z ys)) else .bad
   | none => .bad) (fun d => ∀ v F' H', Ext F H F' H' -> c6 c d v H F' H' -> Q v H') := q
  split at q'
  ·rename_i ys hy
   split at q'
   ·rename_i hz
    obtain ⟨p, vs, rfl, h1, h2⟩ := a7.lst_of s2.fh r2
    rw [<- hK] at h1
    obtain rfl := nG h2 hy
    exact ⟨z, p, ys, rfl, rfl, h1, hz, Rk.ok q' _ F2 H2 (s1.trans s2) (.str _)⟩
   ·exact q'.elim
  ·exact q'.elim
 | _ => exact q.elim
noncomputable def nL : PyData -> PyData -> R PyData
 | .str z, .str y => match Builtin.Str.occurrences z y 0 z.length 1 with
  | i :: _ => .ok (.int i)
  | [] => .bad
 | _, _ => .bad
theorem yC {f g : Sg -> R PyData} (h : PE X e (tBM X.K "str" aDB (tV (bR c) c E f) (gM (tV (bR c) c E g) j6))) (hs : ∀ ρ x, f ρ = .ok x -> ∃ z, x = .str z) : PD X c E e (e2 nL f g) := PE.imp h fun σ H Q zz0 => by
 obtain ⟨ρ, F, ab, k⟩ := zz0
 refine ⟨ρ, F, ab, (Rk.bind k).imp fun x ex q v F1 H1 s1 r1 => ?_⟩
 obtain ⟨z, rfl⟩ := hs ρ x ex
 obtain rfl := a7.str_of r1
 refine ⟨rfl, ρ, F1, ab.ext s1, ((Rk.bind q).ext s1).imp fun y _ q u F2 H2 s2 r2 => ?_⟩
 cases y with
 | str y =>
  have q' : Rk c E F H (match Builtin.Str.occurrences z y 0 z.length 1 with
   | i :: _ => R.ok (PyData.int i)
   | [] => .bad) (fun d => ∀ v F' H', Ext F H F' H' -> c6 c d v H F' H' -> Q v H') := q
  split at q'
  ·rename_i i rest ho
   obtain rfl := a7.str_of r2
   exact ⟨z, y, i, rest, rfl, rfl, ho, Rk.ok q' _ F2 H2 (s1.trans s2) (.int _)⟩
  ·exact q'.elim
 | _ => exact q.elim
noncomputable def kC : Nat -> List PyData -> List PyData
 | _, [] => []
 | i, x :: t => .tuple [.int i, x] :: kC (i + 1) t
theorem oK : ∀ (i : Nat) (xs : List PyData), (kC i xs).length = xs.length
 | _, [] => rfl
 | i, x :: t => by rw [kC, List.length_cons, List.length_cons, oK]
theorem yD : ∀ (k i : Nat) (xs : List PyData), (kC k xs)[i]? = (xs[i]?).map fun x => .tuple [.int ((k + i : Nat) : Int), x]
 | k, i, [] => by simp [kC]
 | k, 0, x :: t => by simp [kC]
 | k, i + 1, x :: t => by rw [kC, List.getElem?_cons_succ, List.getElem?_cons_succ, yD, show k + 1 + i = k + (i + 1) by omega]
noncomputable def wS : PyData -> R (List PyData)
 | .str z => if z.cps.toList.length <= 16777216 then .ok (kC 0 (z.cps.toList.map fun u => .str ⟨#[u]⟩)) else .bad
 | _ => .bad
theorem aDY {K : Frag} {F B : Hp} {z : Str} (hz : z.cps.toList.length <= 16777216) : Yld K (Ity z) F B (kC 0 (z.cps.toList.map fun u => .str ⟨#[u]⟩)) where
 len := by rw [dF, oK, List.length_map]; exact hz
 go := fun i F1 H1 h1 h2 h3 hi => by
  rw [oK, List.length_map, Array.length_toList] at hi
  exact hi
 yld := fun i F1 H1 v H2 x h1 h2 h3 y e => by
  obtain ⟨p, u, hp, rfl, rfl, hu⟩ := y
  rw [yD, List.getElem?_map, Array.getElem?_toList, hu] at e
  cases e
  refine ⟨_, Ext.new h2 hp, .tup (SqT.of aW) (.cons ?_ (.cons (.str _) .nil))⟩
  rw [Nat.zero_add]; exact .int _
 stop := fun F1 H1 h1 h2 h3 => by
  show (kC 0 _).length = z.cps.size
  rw [oK, List.length_map, Array.length_toList]
theorem aK0 {tg : Expr} {f : Sg -> R PyData} (hK : X.K = c.K) (h' : PI X tg e (aDC (gM (tV (c6 c) c E f) j6))) : PI0 X c E tg e (e1 wS f) := PI.imp h' fun σ H Q zz0 => by
 obtain ⟨ρ, F, ab, k⟩ := zz0
 have k' := Rk.bind k
 cases hf : f ρ with
 | bad => rw [hf] at k'; exact k'.elim
 | ex x => rw [hf] at k'; exact ⟨ρ, F, ab, by rw [hf]; exact k'⟩
 | ok d =>
  rw [hf] at k'
  have k2 := Rk.ok k'
  unfold wS at k2
  split at k2
  ·rename_i z
   split at k2
   ·rename_i hz
    refine ⟨ρ, F, ab, ?_⟩
    rw [hf]
    intro v F' H' s r
    obtain rfl := DatV.str_of r
    exact ⟨z, rfl, Rk.ok k2 _ F' H' s (aDY hz)⟩
   ·exact k2.elim
  ·exact k2.elim
end
end Fl
namespace Fl
open PySem L2 PyProof.Rows
noncomputable def jQ (kvs : List (PyData × PyData)) (k : PyData) : Option PyData := (kvs.find? fun p => decide (p.1 = k)).map (·.2)
noncomputable def gI (kvs : List (PyData × PyData)) (k : PyData) : Bool := (jQ kvs k).isSome
noncomputable def putM (kvs : List (PyData × PyData)) (k v : PyData) : List (PyData × PyData) := if gI kvs k = true then kvs.map (fun p => if p.1 = k then (p.1, v) else p) else kvs ++ [(k, v)]
theorem aAN {K : Frag} {F : Hp} {k : PyData} : ∀ {es : List Ent} {kvs : List (PyData × PyData)}, es.map (·.1) = kvs.map (·.1) -> DatVs K F (es.map (·.2.2)) (kvs.map (·.2)) ->
  (atE es k = none /\ jQ kvs k = none) \/ ∃ v d, atE es k = some v /\ jQ kvs k = some d /\ DatV K F v d
 | [], [], _, _ => .inl ⟨rfl, rfl⟩
 | [], _ :: _, h, _ => by cases h
 | _ :: _, [], h, _ => by cases h
 | e :: es, p :: kvs, h, r => by
  rw [List.map_cons, List.map_cons] at h r
  injection h with h1 h2
  obtain ⟨v, t, e1, r1, r2⟩ := r.cons_of
  rw [List.cons.injEq] at e1
  obtain ⟨rfl, rfl⟩ := e1
  have ih := aAN (k := k) h2 r2
  unfold atE jQ at ih ⊢
  rw [List.find?_cons, List.find?_cons, h1]
  by_cases q : p.1 = k
  · rw [decide_eq_true q]; exact .inr ⟨_, _, rfl, rfl, r1⟩
  · rw [decide_eq_false q]; exact ih
theorem MapRel.get {K : Frag} {F : Hp} {es : List Ent} {kvs : List (PyData × PyData)} (m : MapRel K F es kvs) (k : PyData) : (atE es k = none /\ jQ kvs k = none) \/ ∃ v d, atE es k = some v /\ jQ kvs k = some d /\ DatV K F v d := aAN m.k1 m.vs
theorem MapRel.has {K : Frag} {F : Hp} {es : List Ent} {kvs : List (PyData × PyData)} (m : MapRel K F es kvs) (k : PyData) : (atE es k).isSome = gI kvs k := by
 unfold gI
 rcases m.get k with ⟨a, b⟩ | ⟨v, d, a, b, _⟩ <;> rw [a, b] <;> rfl
theorem rX {kvs : List (PyData × PyData)} {k : PyData} : gI kvs k = true ↔ k ∈ kvs.map (·.1) := by
 unfold gI jQ
 rw [Option.isSome_map]
 induction kvs with
 | nil => simp
 | cons p t ih =>
  rw [List.find?_cons]
  by_cases q : p.1 = k
  ·rw [decide_eq_true q]; simp [q]
  ·rw [decide_eq_false q, ih, List.map_cons]
   exact ⟨fun z => List.mem_cons_of_mem _ z, fun z => (List.mem_cons.mp z).resolve_left (fun w => q w.symm)⟩
theorem aDZ {kvs : List (PyData × PyData)} {k v : PyData} : (putM kvs k v).map (·.1) = if gI kvs k = true then kvs.map (·.1) else kvs.map (·.1) ++ [k] := by
 unfold putM
 cases h : gI kvs k with
 | true =>
  rw [if_pos rfl, if_pos rfl, List.map_map]
  refine List.map_congr_left fun p _ => ?_
  show (if p.1 = k then (p.1, v) else p).1 = p.1
  split <;> rfl
 | false => rw [if_neg (by decide), if_neg (by decide), List.map_append]; rfl
theorem aAO {K : Frag} {F : Hp} {k d : PyData} {v : V} (r : DatV K F v d) : ∀ {es : List Ent} {kvs : List (PyData × PyData)}, es.map (·.1) = kvs.map (·.1) -> DatVs K F (es.map (·.2.1)) (kvs.map (·.1)) -> DatVs K F (es.map (·.2.2)) (kvs.map (·.2)) ->
  (es.map fun e => if e.1 = k then (e.1, e.2.1, v) else e).map (·.1) = (kvs.map fun p => if p.1 = k then (p.1, d) else p).map (·.1) /\
  DatVs K F ((es.map fun e => if e.1 = k then (e.1, e.2.1, v) else e).map (·.2.1)) ((kvs.map fun p => if p.1 = k then (p.1, d) else p).map (·.1)) /\
  DatVs K F ((es.map fun e => if e.1 = k then (e.1, e.2.1, v) else e).map (·.2.2)) ((kvs.map fun p => if p.1 = k then (p.1, d) else p).map (·.2))
 | [], [], _, _, _ => ⟨rfl, .nil, .nil⟩
 | [], _ :: _, h, _, _ => by cases h
 | _ :: _, [], h, _, _ => by cases h
 | e :: es, p :: kvs, h, rk, rv => by
  rw [List.map_cons, List.map_cons] at h rk rv
  injection h with h1 h2
  obtain ⟨_, _, e1, r1, r2⟩ := rk.cons_of
  rw [List.cons.injEq] at e1
  obtain ⟨rfl, rfl⟩ := e1
  obtain ⟨_, _, e1, q1, q2⟩ := rv.cons_of
  rw [List.cons.injEq] at e1
  obtain ⟨rfl, rfl⟩ := e1
  obtain ⟨a1, a2, a3⟩ := aAO r h2 r2 q2
  simp only [List.map_cons]
  rw [h1, a1]
  by_cases q : p.1 = k
  · rw [if_pos q, if_pos q]; exact ⟨rfl, .cons r1 a2, .cons r a3⟩
  · rw [if_neg q, if_neg q]; exact ⟨by rw [h1], .cons r1 a2, .cons q1 a3⟩
theorem MapRel.put {K : Frag} {F : Hp} {es : List Ent} {kvs : List (PyData × PyData)} {k d : PyData} {kv v : V} (m : MapRel K F es kvs) (rk : DatV K F kv k) (r : DatV K F v d) : MapRel K F (mY es k kv v) (putM kvs k d) := by
 have hh := m.has k
 have nd : ((putM kvs k d).map (·.1)).Nodup := by
  rw [aDZ]
  cases h : gI kvs k with
  | true => rw [if_pos rfl]; exact m.nd
  | false =>
   rw [if_neg (by decide), List.nodup_append]
   refine ⟨m.nd, by simp, fun a ha b hb z => ?_⟩
   rw [List.mem_singleton] at hb
   subst hb z
   rw [rX.mpr ha] at h
   cases h
 unfold mY
 rw [hh]
 unfold putM at nd ⊢
 cases h : gI kvs k with
 | true =>
  rw [h, if_pos rfl] at nd
  rw [if_pos rfl, if_pos rfl]
  obtain ⟨a1, a2, a3⟩ := aAO (k := k) r m.k1 m.k2 m.vs
  exact ⟨a1, a2, a3, nd⟩
 | false =>
  rw [h, if_neg (by decide)] at nd
  rw [if_neg (by decide), if_neg (by decide)]
  refine ⟨by rw [List.map_append, List.map_append, m.k1]; rfl, ?_, ?_, nd⟩
  ·rw [List.map_append, List.map_append]; exact m.k2.append (.cons rk .nil)
  ·rw [List.map_append, List.map_append]; exact m.vs.append (.cons r .nil)
theorem pK {K : Frag} {F : Hp} : ∀ {es : List Ent} {kvs : List (PyData × PyData)}, es.map (·.1) = kvs.map (·.1) -> DatVs K F (es.map (·.2.1)) (kvs.map (·.1)) -> ∀ e ∈ es, DatV K F e.2.1 e.1
 | [], _, _, _, e, he => by cases he
 | _ :: _, [], h, _, _, _ => by cases h
 | e0 :: es, p :: kvs, h, rk, e, he => by
  rw [List.map_cons, List.map_cons] at h rk
  injection h with h1 h2
  obtain ⟨_, _, e1, r1, r2⟩ := rk.cons_of
  rw [List.cons.injEq] at e1
  obtain ⟨rfl, rfl⟩ := e1
  rcases List.mem_cons.mp he with z | z
  · subst z; rw [h1]; exact r1
  · exact pK h2 r2 e z
section
variable {X : Cx} {c : Ct} {E : XK} {e a b : Expr} {st : Stmt} {pos : Pos}
theorem aB1 {ρ : Sg} {σ : L2.St} {F H : Hp} {i : Nat} {kvs : List (PyData × PyData)} {k : PyData} {kv : V} (hK : X.K = c.K) (hW : X.w = c.w) (ab : Ab c ρ σ F H) (hi : ρ[i]? = some (some (.m kvs))) (hk : DatV c.K F kv k) (hs : eY k (kvs.map (·.1)) = true) :
  ∃ p es, σ[i]? = some (some (.ref p)) /\ DicAt X H p es k kv /\ MapRel c.K F es kvs := by
 obtain ⟨v, hp, p, es, rfl, h2, h3, h4, h5⟩ := ab.slot i _ hi
 refine ⟨p, es, hp, ⟨by rw [hW]; exact h2, fun e he => by rw [hK]; exact (pK h5.k1 h5.k2 e he).same ab.fh, by rw [h5.k1]; exact h5.nd, by rw [hK]; exact hk.same ab.fh, by rw [h5.k1]; exact hs⟩, h5⟩
def aGR (w : World) : TE := fun _ H Q => ∀ p, H p = none -> Q (.ref p) (upd H p (fD w p []))
theorem u0 : PE X (.Dict [] [] pos) (aGR X.w) := fun pins s σ H Q I h =>
 wpAny_Dict_empty ⟨.ref s.heap.objs.size, _, I.laid (a := s.heap.objs.size) (o := fD X.w s.heap.objs.size []) (t' := s.toks) (fun _ _ q => Heap.get?_push_of_some _ q) (Nat.le_refl _)
  (lK (beq_eq_false_iff_ne.mpr (Ne.symm (Nat.ne_of_lt I.big))) ⟨_, #[], 0, Heap.get?_push_size _ rfl, ⟨rfl, rfl, rfl⟩, rfl, .nil⟩), rfl, h _ (I.hok.fresh (Nat.le_refl _))⟩
noncomputable def mK (i : Nat) : Sg -> R Fw := fun ρ => .ok (.nx (ρ.set i (some (.m []))))
theorem u7 {i : Nat} {w : World} (hW : w = c.w) (h : PS X st (kS (aGR w) (jL i))) : PSf X c E st (mK i) := PS.imp h fun D σ H ⟨ρ, F, ab, k⟩ => fun p hp => by
 subst hW
 exact Rk.ok k _ F _ (cN F) (ab.setM (Ext.own ab.fh hp) hp aW (cB ab.fh hp) ⟨rfl, .nil, .nil, List.nodup_nil⟩)
noncomputable def lY (neg : Bool) (i : Nat) (f : Sg -> R PyData) : Sg -> R PyData := fun ρ => (f ρ).bind fun k => match ρ[i]? with
 | some (some (.m kvs)) => if eY k (kvs.map (·.1)) = true then .ok (.bool (if neg = true then !gI kvs k else gI kvs k)) else .bad
 | _ => .bad
def aB2 (X : Cx) (neg : Bool) : R2 := fun y x H Q => ∃ p es k, x = .ref p /\ DicAt X H p es k y /\ Q (.bl (if neg = true then !(atE es k).isSome else (atE es k).isSome)) H
theorem aAP (hu : X.A.units + 64 < cLine) : OpR X (compareOp .In) (aB2 X false) := by
 intro pins s σ H y x v u Q I ry rx h
 obtain ⟨p, es, k, rfl, D, q⟩ := h
 cases (show u = Value.ref p from rx)
 exact aKT hu D I ry fun s' I' => ⟨.bl _, H, I', rfl, q⟩
theorem yE (hu : X.A.units + 64 < cLine) : OpR X (compareOp .NotIn) (aB2 X true) := by
 intro pins s σ H y x v u Q I ry rx h
 obtain ⟨p, es, k, rfl, D, q⟩ := h
 cases (show u = Value.ref p from rx)
 exact aHZ hu D I ry fun s' I' => ⟨.bl _, H, I', rfl, q⟩
theorem aFQ {i : Nat} {neg : Bool} {f : Sg -> R PyData} (hK : X.K = c.K) (hW : X.w = c.w) {σ : L2.St} {H : Hp} {Q : VK} (h : tV (c6 c) c E (lY neg i f) σ H Q) : tOp (aB2 X neg) (tV (c6 c) c E f) (j3 i) σ H Q := by
 obtain ⟨ρ, F, ab, k⟩ := h
 refine ⟨ρ, F, ab, (Rk.bind k).imp fun d _ q v F1 H1 s1 r1 => ?_⟩
 split at q
 ·rename_i kvs hi
  split at q
  ·rename_i hs
   obtain ⟨p, es, hp, D, m⟩ := aB1 hK hW (ab.ext s1) hi r1 hs
   refine ⟨_, hp, p, es, d, rfl, D, ?_⟩
   rw [m.has]
   exact Rk.ok q _ F1 H1 s1 (.bl _)
  ·exact q.elim
 ·exact q.elim
theorem tL {i : Nat} {neg : Bool} {f : Sg -> R PyData} (hK : X.K = c.K) (hW : X.w = c.w) (h : PT X e (aGE (tOp (aB2 X neg) (tV (c6 c) c E f) (j3 i)))) : PTf X c E e (e1 asB (lY neg i f)) := PT.imp h fun σ H Q q => aFQ hK hW (uS q)
noncomputable def tM (i : Nat) (f : Sg -> R PyData) : Sg -> R PyData := fun ρ => match ρ[i]? with
 | some (some (.m kvs)) => (f ρ).bind fun k => if eY k (kvs.map (·.1)) = true then match jQ kvs k with
  | some v => .ok v
  | none => .bad else .bad
 | _ => .bad
def aGS (X : Cx) (td ty : TE) : TE := fun σ H Q => td σ H fun x H1 => ty σ H1 fun y H2 => ∃ p es k v, x = .ref p /\ DicAt X H2 p es k y /\ atE es k = some v /\ Q v H2
theorem aH6 {o i : Expr} {td ty : TE} (hu : X.A.units + 64 < cLine) (ho : PE X o td) (hi : PE X i ty) (hs : aKM i) : PE X (.Subscript o i pos) (aGS X td ty) := by
 intro pins s σ H Q I h
 refine aHO PySem.F.slot_dict_getitem.lookup hs (thn (ho pins s σ H _ I h) fun u s1 ⟨x, H1, I1, rx, q1⟩ => thn (hi pins s1 σ H1 _ I1 q1) fun iv s2 zz0 => ?_)
 obtain ⟨y, H2, I2, ry, p, es, k, v, ex, D, hv, q2⟩ := zz0
 subst ex
 obtain rfl : u = Value.ref p := rx
 obtain ⟨⟨_, o', ar, ep, h1, h2, _⟩, _, _⟩ := (show cE X.prog X.w H2 s2.heap p (fD X.w p es) from I2.hok p _ D.o)
 exact ⟨⟨o', h1, h2.1⟩, aH0 hu D I2 ry hv fun w' s3 I3 rw' => ⟨v, H2, I3, rw', q2⟩⟩
theorem aH7 {i : Nat} {f : Sg -> R PyData} (hK : X.K = c.K) (hW : X.w = c.w) (h : PE X e (aGS X (j3 i) (tV (c6 c) c E f))) : PD X c E e (tM i f) := PE.imp h fun σ H Q zz0 => by
 obtain ⟨ρ, F, ab, k⟩ := zz0
 unfold tM at k
 split at k
 ·rename_i kvs hi
  obtain ⟨_, hp, p, es, rfl, _⟩ := ab.slot i _ hi
  refine ⟨_, hp, ρ, F, ab, (Rk.bind k).imp fun d _ q v F1 H1 s1 r1 => ?_⟩
  split at q
  ·rename_i hs
   obtain ⟨p', es', hp', D, m⟩ := aB1 hK hW (ab.ext s1) hi r1 hs
   rw [hp] at hp'
   cases hp'
   split at q
   ·rename_i w hw
    rcases m.get d with ⟨_, z⟩ | ⟨v', d', h1, h2, h3⟩
    ·rw [hw] at z; cases z
    ·rw [hw] at h2
     cases h2
     exact ⟨p, es', d, v', rfl, D, h1, Rk.ok q v' F1 H1 s1 h3⟩
   ·exact q.elim
  ·exact q.elim
 ·exact k.elim
noncomputable def kK (i : Nat) (f g : Sg -> R PyData) : Sg -> R Fw := fun ρ => (g ρ).bind fun v => match ρ[i]? with
 | some (some (.m kvs)) => (f ρ).bind fun k => if eY k (kvs.map (·.1)) = true /\ kvs.length <= 16777216 then .ok (.nx (ρ.set i (some (.m (putM kvs k v))))) else .bad
 | _ => .bad
def aGT (X : Cx) : aBB := fun o i v H Q => ∃ p es k, o = .ref p /\ DicAt X H p es k i /\ es.length <= sizeLine /\ Q (upd H p (fD X.w p (mY es k i v)))
theorem oM (hu : X.A.units + 64 < cLine) : aJW X (aGT X) := by
 intro pins s σ H o i v ov iv u Q I ro ri rv h
 obtain ⟨p, es, k, rfl, D, hz, q⟩ := h
 cases (show ov = Value.ref p from ro)
 exact aH1 hu D I ri rv hz fun s' I' => ⟨_, I', q⟩
theorem qK {i : Nat} {f g : Sg -> R PyData} (hK : X.K = c.K) (hW : X.w = c.w) (h : PS X st (kS (tV (c6 c) c E g) (aJZ (j3 i) (tV (c6 c) c E f) (aGT X)))) : PSf X c E st (kK i f g) := PS.imp h fun D σ H zz0 => by
 obtain ⟨ρ, F, ab, k⟩ := zz0
 refine ⟨ρ, F, ab, (Rk.bind k).imp fun x _ q v F1 H1 s1 r1 => ?_⟩
 split at q
 ·rename_i kvs hi
  have ab1 := ab.ext s1
  obtain ⟨_, hp, p, es, rfl, _⟩ := ab1.slot i _ hi
  refine ⟨_, hp, ρ, F1, ab1, ((Rk.bind q).ext s1).imp fun d _ q u F2 H2 s2 r2 => ?_⟩
  have ab2 := ab1.ext s2
  split at q
  ·rename_i hs
   obtain ⟨p', es', hp', D', m⟩ := aB1 hK hW ab2 hi r2 hs.1
   rw [hp] at hp'
   cases hp'
   refine ⟨p, es', d, rfl, D', ?_, ?_⟩
   ·have : es'.length = kvs.length := by have := congrArg List.length m.k1; simpa using this
    rw [this, dF]; exact hs.2
   ·rw [hW]
    exact Rk.ok q σ F2 _ (s1.trans s2).ff (ab2.putM hi hp (m.put r2 (DatV.same s2.ff r1)))
  ·exact q.elim
 ·exact q.elim
end
end Fl
namespace Fl
open PySem L2 PyProof.Rows
section
variable {X : Cx} {c : Ct} {E : XK} {e a b : Expr} {st : Stmt} {pos p2 : Pos}
def u8 (fs : PyData -> Sg -> Option Sg) (f : Sg -> R PyData) : Sg -> R Fw := fun ρ => (f ρ).bind fun x => (x9 (fs x ρ)).bind fun ρ' => .ok (.nx ρ')
theorem tN {g : TG} {fs : PyData -> Sg -> Option Sg} {is : List Nat} {f : Sg -> R PyData} (hg : Tg c g fs is) (h : PS X st (kS (tV (c6 c) c E f) g)) : PSf X c E st (u8 fs f) := PS.imp h fun D σ H zz0 => by
 obtain ⟨ρ, F, ab, k⟩ := zz0
 refine ⟨ρ, F, ab, (Rk.bind k).imp fun x _ q v F1 H1 s1 r1 => ?_⟩
 cases h1 : fs x ρ with
 | none => rw [h1] at q; exact q.elim
 | some ρ' =>
  rw [h1] at q
  exact hg v x ρ ρ' σ F1 H1 _ (ab.ext s1) r1 h1 fun σ' _ _ ab' => Rk.ok q σ' F1 H1 s1.ff ab'
noncomputable def aK1 : PyData -> R PyData
 | .str z => if z.length <= 16777216 then .ok (.str ⟨z.cps.toList.reverse.toArray⟩) else .bad
 | _ => .bad
def aOH (f : Sg -> R PyData) (g : Sg -> R (Option Int)) : Sg -> R PyData := fun ρ => (f ρ).bind fun x => (g ρ).bind fun o => if o = some (-1) then aK1 x else .bad
end
end Fl
namespace Fl
open PySem L2 PyProof.Rows
theorem aK2 {P : Program} {w : World} {K : Frag} {mg : Str -> Option Value} {base : Heap} {T : Hp} {x : Str} {st : Stmt} {N ps : List Str} {k : Nat} {f : Addr} {fd : FuncData} {fb : Sg -> R Fw} (FL : Fun K x x st f fd) (S : FnScope N ps (aO st))
  (hbody : ∀ (cdv : Value) (A : Around) (outer : List Env) (s : Shared) (H F : Hp) (E : XK), Room k (A.deeper (envOfC x (aO st) s.heap.objs.size f cdv)) ->
   kT ((jM (CXe P w) P w K mg base N x (aO st) f cdv A outer s H E).fly E) ⟨K, mg, w, F, H, gOf P w K mg base T, (envOfC x (aO st) s.heap.objs.size f cdv).cells, fun _ => none⟩ E (c8 st) fb) : FnOk P w K mg base (CXe P w) (k + 1) f fd ps (spF (gOf P w K mg base T) K mg ps.length (fnF N.length fb)) := by
 refine FL.okX S (fun vs H Q E h => ?_) (fun cdv A outer s H vs Q E hr h => ?_)
 ·obtain ⟨F, as, _, _, h2, h3, _⟩ := h
  rw [h2.len, h3]
 ·obtain ⟨F, as, h0, h1, h2, h3, h4⟩ := h
  exact ⟨_, hbody cdv A outer s H F E hr, qJ h0 h1 h2 h4⟩
def aB3 (K : Frag) (T : Hp) : Sp := fun vs H Q _ => ∃ (a : Addr) (ns : List Int), vs = [.ref a] /\ ns.length <= 63 /\ aR T H /\ SqL K H a (ns.map V.int) /\ ∀ H', Q (.bl true) H'
theorem yF {K : Frag} {H : Hp} : ∀ (ns : List Int), DatVs K H (ns.map V.int) (ns.map PyData.int)
 | [] => .nil
 | n :: t => .cons (.int n) (yF t)
theorem aK3 {P : Program} {w : World} {K : Frag} {mg : Str -> Option Value} {base : Heap} {T : Hp} {k : Nat} {f : Addr} {fd : FuncData} {x : Str} {G : List A -> R A} (h : FnOk P w K mg base (CXe P w) k f fd [x] (spF (gOf P w K mg base T) K mg 1 G))
  (hl : ∀ ns : List Int, ns.length <= 63 -> G [.d (.list (ns.map .int))] = .ok (.d (.bool true))) : FnOk P w K mg base (CXe P w) k f fd [x] (aB3 K T) := h.imp fun vs H Q E => by
 rintro ⟨a, ns, rfl, hn, ht, hs, q⟩
 refine ⟨H, [.d (.list (ns.map .int))], ht, cN H, ⟨.lst hs (yF ns), trivial⟩, rfl, ?_⟩
 rw [hl ns hn]
 intro v F' H' _ r
 obtain rfl := DatV.bl_of r
 exact q H'
theorem aM4 (P : Program) (w : World) (H : Hp) (s : Shared) (e : Value) (s' : Shared) (h : CXe P w [] H s (fun _ _ _ => False) e s') : False := by
 obtain ⟨_, _, _, _, _, _, _, _, _, _, _, q⟩ := h
 exact q
theorem aH8 {l : PySem.W.OpenLaw} {k : Nat} {q : Program} {loose : List Str} {XP : (Str -> Option Value) -> Heap -> Prop} {YP : World -> Heap -> Prop} {d : DefRec} {K : Params -> Frag} {x : Str} {qs : List (Pos × Str)} {xs : List Str}
  (hxs : ∀ x ∈ xs, ∃ d ∈ recsOf q, d.name = x) (hNT : ∀ w : World, PySem.W.noTabs (K w.params) = true)
  (hn : l.most = some 63) (hdf : d.params.defaults = []) (hr : Room k callerA)
  (hY : ∀ (w : World) (h : Heap), YP w h -> (K w.params).In h)
  (F : ∀ (w : World) (mg : Str -> Option Value) (fa : Addr) (h : Heap), (K w.params).In h -> h.Ns mainGlobals mg -> mg d.name = some (.ref fa) ->
   ∃ fd : FuncData, (∀ (s : Shared) (u : Value), BindsTo s fd ⟨[u], []⟩ [(x, u)]) /\
    ∀ (base : Heap) (T : Hp), (K w.params).In base -> base.Ns mainGlobals mg -> xR mg h base T qs xs -> FnOk l.prog w (K w.params) mg base (CXe l.prog w) k fa fd [x] (aB3 (K w.params) T)) :
  PySem.W.WalkO q loose XP YP l.row.toRowW d [] (fun f vs => PySem.call f vs) :=
 walk_ofT (K := K) (CX := fun w => CXe l.prog w) (qs := qs) (xs := xs) hxs hNT hn (by decide) hdf hr hY (fun w mg fa h h1 h2 h3 => by
  obtain ⟨fd, hb, hF⟩ := F w mg fa h h1 h2 h3
  exact ⟨fd, hb, fun base T h1 h2 h3 => ⟨_, hF base T h1 h2 h3, fun H a ns hl hT hS => ⟨a, ns, rfl, hl, hT, hS, fun _ => rfl⟩⟩⟩) fun w H s e s' z => aM4 _ w H s e s' z
end Fl
namespace Fl
open PySem L2 PyProof.Rows
variable {X : Cx} {c : Ct} {E : XK} {e : Expr}
noncomputable def d2 (G : Int -> Int -> Int) : PyData -> PyData -> R PyData
 | .int i, .int j => .ok (.int (G i j))
 | _, _ => .bad
noncomputable def d1 (G : Int -> Int) : PyData -> R PyData
 | .int i => .ok (.int (G i))
 | _ => .bad
noncomputable def u9 (i j : Int) : Int := if j > i then j else i
noncomputable def vA (i j : Int) : Int := if j < i then j else i
theorem aD0 {G : Int -> Int -> Int} {f g : Sg -> R PyData} (h0 : PE X e (tCB (fun xs H Q => ∃ i j, xs = [.int i, .int j] /\ Q (.int (G i j)) H) (gM (tV (bR c) c E f) (gM (tV (bR c) c E g) j6)))) : PD X c E e (e2 (d2 G) f g) := PE.imp h0 fun σ H Q zz0 => by
 obtain ⟨ρ, F, ab, k⟩ := zz0
 refine ⟨ρ, F, ab, (Rk.bind k).imp fun x ex q v F1 H1 s1 r1 => ?_⟩
 refine ⟨ρ, F1, ab.ext s1, ((Rk.bind q).ext s1).imp fun y _ q u F2 H2 s2 r2 => ?_⟩
 cases x with
 | int i =>
  cases y with
  | int j =>
   obtain rfl := a7.int_of r1
   obtain rfl := a7.int_of r2
   exact ⟨i, j, rfl, Rk.ok q _ F2 H2 (s1.trans s2) (.int _)⟩
  | _ => exact q.elim
 | _ => exact q.elim
end Fl
namespace L2
open PySem PyProof.Rows
variable {X : Cx}
end L2
namespace Fl
open PySem L2 PyProof.Rows
variable {X : Cx} {c : Ct} {E : XK} {e : Expr}
end Fl
namespace Fl
open PySem L2 PyProof.Rows
variable {X : Cx} {c : Ct} {E : XK} {e : Expr} {st : Stmt}
end Fl
namespace L2
open PySem PyProof.Rows
theorem aH9 {prog : Program} {w : World} {A : Around} {E : Value -> Shared -> Prop} {s : Shared} {t b : Addr} {vs ws : List Value} {Q : Value -> Shared -> Prop} (ht : PlainL s.heap t vs.toArray) (hb : PlainL s.heap b ws.toArray)
  (h2 : Q (.ref s.heap.objs.size) { s with heap := s.heap.push { cls := .type "list", data := .seq (vs ++ ws).toArray } })
  (hsz : vs.length + ws.length <= sizeLine) : wpAny (model prog w) A (binaryOp .Add (.ref t) (.ref b)) Q E s := by
 obtain ⟨⟨cls, dd, data, sl⟩, n, ho, hc, _, hd⟩ := id ht
 obtain ⟨⟨cls2, dd2, data2, sl2⟩, n2, ho2, hc2, _, hd2⟩ := id hb
 simp only at hc hd hc2 hd2
 subst hc hd hc2 hd2
 have e : vs.toArray ++ ws.toArray = (vs ++ ws).toArray := by simp
 refine concat_meets ⟨_, ho, rfl⟩ ⟨_, ho2, rfl⟩ noFill_list_add seq_list_add PySem.F.slot_list_add PySem.F.entry_list_add (PySem.F.args_list_add_2 _ _)
   (list_addW t b vs.toArray ws.toArray n n2 dd dd2 sl sl2 (by rw [List.size_toArray, List.size_toArray]; exact hsz)) ⟨ho, ho2, ?_⟩
 rw [e]
 exact h2
end L2
namespace Fl
open PySem L2 PyProof.Rows
section
variable {X : Cx} {c : Ct} {E : XK} {e a b : Expr} {pos : Pos}
noncomputable def m3 : PyData -> PyData -> R (List PyData)
 | .list xs, .list ys => if xs.length + ys.length <= sizeLine then .ok (xs ++ ys) else .bad
 | _, _ => .bad
theorem aIA (hK : X.K = c.K) : OpR X (binaryOp .Add) (r2D (bR c) (bR c) (uR c) m3) := by
 intro pins s σ H v u x y Q I rx ry h
 obtain ⟨H0, H1, F, a, b, d, sf, ra, rb, eg, q⟩ := h
 unfold m3 at eg
 split at eg
 ·rename_i xs ys
  split at eg
  ·rename_i hz
   cases eg
   obtain ⟨pa, vs, rfl, ha, da⟩ := a7.lst_of sf ra
   obtain ⟨pb, us, rfl, hb, db⟩ := a7.lst_of sf rb
   rw [<- hK] at ha hb
   cases rx
   cases ry
   obtain ⟨its, r1, p1, _⟩ := I.list ha
   obtain ⟨its2, r2, p2, _⟩ := I.list hb
   have hz' : vs.length + us.length <= sizeLine := by rw [da.length, db.length]; exact hz
   have hp := I.fresh
   refine aH9 p1 p2 ?_ (by rw [<- r1.length, <- r2.length]; exact hz')
   exact ⟨.ref _, _, I.lnew (t' := s.toks) (r1.append r2) (by rw [List.length_append]; exact hz'), rfl, q _ F _ (Ext.own sf hp) ⟨_, _, rfl, hp, aW, cB sf hp, da.append db⟩⟩
  ·cases eg
 ·cases eg
theorem aD1 : dU m3 := by
 intro a b e h
 unfold m3 at h
 split at h <;> (try split at h) <;> cases h
theorem aD2 (hK : X.K = c.K) {fa fb : Sg -> R PyData} (ha : PR X c E a fa) (hb : PR X c E b fb) : PN X c E (.BinOp a .Add b pos) (e2 m3 fa fb) :=
 PE.imp (aGD (aIA hK) ha hb) fun σ H Q h => tV2 tF aD1 (pB c) (aMZ c) h
end
end Fl
namespace Fl
open PySem L2 PyProof.Rows
theorem p8 {H : Hp} {p : Addr} {a b : HO} : upd (upd H p a) p b = upd H p b := by
 funext x
 by_cases q : x = p
 · subst q; rw [aW, aW]
 · rw [aG q, aG q, aG q]
section
variable {X : Cx} {pins : List (Addr × Obj)} {σ : L2.St} {H : Hp} {s : Shared} {a : Addr} {es : List Ent} {k : PyData} {kv v : V} {ku u : Value} {A : Around} {E : Value -> Shared -> Prop}
theorem aB4 {A : Around} (hu : A.units + 64 < cLine) : (iZ X.prog X.w).room A := by show A.units + 9 < cLine; omega
theorem aIB {Q : Unit -> Shared -> Prop} (hu : A.units + 64 < cLine) (D : DicAt X H a es k kv) (I : Inv X pins σ H s) (rk : bC kv ku) (rv : bC v u) (hz : es.length <= sizeLine) (h : ∀ s', Inv X pins σ (upd H a (fD X.w a (mY es k kv v))) s' -> Q () s') :
  wpAny (model X.prog X.w) A (dictSet a ku u) Q E s := by
 obtain ⟨hd, ⟨b, xs, rfl, rfl, hx, hk, dd⟩ | ⟨kk, xs, rfl, rfl, hx, hk, dd⟩⟩ := D.cases I rk
 ·have hl : xs.length <= sizeLine := by rw [<- Paired.length hx]; exact hz
  refine wpAny_dictSet_heap (a := b) (aB4 hu) hk dd (fun h' dd' hs => h _ ?_) hl
  obtain ⟨q', ar, ep, hq, h2, h3, h4, _, h5⟩ := dd'
  refine qB I (by rw [D.o]; exact True.intro) hs ⟨q', hq⟩ (lK hd ⟨q', ar, ep, hq, h2, h3, ?_⟩)
  rw [h4]
  exact rR (aGL rv hx)
 ·have hl : xs.length <= sizeLine := by rw [<- Paired.length hx]; exact hz
  refine wpAny_dictSet_pairs hk dd (fun h' dd' hs => h _ ?_) hl
  obtain ⟨q', ar, ep, hq, h2, h3, h4, h5, _⟩ := dd'
  refine qB I (by rw [D.o]; exact True.intro) hs ⟨q', hq⟩ (lK hd ⟨q', ar, ep, hq, h2, h3, ?_⟩)
  exact rS (aGN rv hx) h5 fun en hen => h4 en (by simpa using hen)
end
abbrev TP := L2.St -> Hp -> (List (V × V) -> Hp -> Prop) -> Prop
def aK4 (p : V × V) (u : Value × Value) : Prop := bC p.1 u.1 /\ bC p.2 u.2
def PPr (X : Cx) (keys : List (Option Expr)) (vals : List Expr) (t : TP) : Prop := ∀ (pos : Pos) (pins : List (Addr × Obj)) (s : Shared) (σ : L2.St) (H : Hp) (Q : List (V × V) -> Hp -> Prop), Inv X pins σ H s -> t σ H Q ->
 wpAny (model X.prog X.w) X.A (evalPairs (pairTrees keys vals X.env pos)) (fun vs s' => ∃ ps H', Inv X pins σ H' s' /\ Paired aK4 ps vs /\ Q ps H') X.xe s
def aM5 : TP := fun _ H Q => Q [] H
def aK5 (tk tv : TE) (t : TP) : TP := fun σ H Q => tk σ H fun x H1 => tv σ H1 fun y H2 => t σ H2 fun ps H3 => Q ((x, y) :: ps) H3
section
variable {X : Cx} {c : Ct} {E : XK} {e a b : Expr} {st : Stmt} {pos : Pos}
theorem aK6 : PPr X [] [] aM5 := fun pos pins s σ H Q I h => evalPairs_nil ⟨[], H, I, .nil, h⟩
theorem aIC {k v : Expr} {ks : List (Option Expr)} {vs : List Expr} {tk tv : TE} {t : TP} (hk : PE X k tk) (hv : PE X v tv) (hr : PPr X ks vs t) : PPr X (some k :: ks) (v :: vs) (aK5 tk tv t) := by
 intro pos pins s σ H Q I h
 rw [pairTrees.eq_1]
 refine evalPairs_cons (thn (hk pins s σ H _ I h) fun ku s1 zz0 => ?_)
 obtain ⟨x, H1, I1, r1, q1⟩ := zz0
 refine wpAny_bind (thn (hv pins s1 σ H1 _ I1 q1) fun vu s2 zz0 => ?_)
 obtain ⟨y, H2, I2, r2, q2⟩ := zz0
 refine wpAny_bind (wpAny_standAt (wpAny_pure ?_))
 exact thn (hr pos pins s2 σ H2 _ I2 q2) fun vs s3 ⟨ps, H3, I3, r3, q3⟩ => ⟨(x, y) :: ps, H3, I3, .cons ⟨r1, r2⟩ r3, q3⟩
noncomputable def hX : List (PyData × PyData) -> List (PyData × PyData) -> R (List (PyData × PyData))
 | acc, [] => .ok acc
 | acc, (k, v) :: t => if eY k (acc.map (·.1)) = true /\ acc.length <= 16777216 then hX (putM acc k v) t else .bad
def aFR (K : Frag) (F : Hp) (p : V × V) (d : PyData × PyData) : Prop := DatV K F p.1 d.1 /\ DatV K F p.2 d.2
theorem aD3 {pins : List (Addr × Obj)} {σ : L2.St} {p : Addr} {F : Hp} (hu : X.A.units + 64 < cLine) (kvs : List (PyData × PyData)) : ∀ (ps : List (V × V)) (vs : List (Value × Value)) (acc res : List (PyData × PyData)) (es : List Ent) (H : Hp) (s : Shared) (Q : Shared -> Prop),
  Inv X pins σ H s -> aR F H -> F p = none -> H p = some (fD X.w p es) -> MapRel X.K F es acc -> Paired (aFR X.K F) ps kvs -> Paired aK4 ps vs -> hX acc kvs = .ok res ->
  (∀ es' s', Inv X pins σ (upd H p (fD X.w p es')) s' -> MapRel X.K F es' res -> Q s') -> wpAny (model X.prog X.w) X.A (storeAll p vs) (fun _ s => Q s) X.xe s := by
 induction kvs with
 | nil =>
  intro ps vs acc res es H s Q I sf hf hp m d r e q
  cases d
  cases r
  cases e
  have hs : storeAll p [] = pure PUnit.unit := by unfold storeAll; rw [List.forIn_nil]
  rw [hs]
  refine wpAny_pure (q es s ?_ m)
  have : upd H p (fD X.w p es) = H := by
   funext x
   by_cases z : x = p
   ·subst z; rw [aW, hp]
   ·rw [aG z]
  rw [this]; exact I
 | cons kv t ih =>
  obtain ⟨k, v⟩ := kv
  intro ps vs acc res es H s Q I sf hf hp m d r e q
  cases d with
  | @cons x _ ps _ d ds =>
   cases r with
   | @cons _ u _ vs r rs =>
    unfold hX at e
    split at e
    ·rename_i hs
     have D : DicAt X H p es k x.1 := ⟨hp, fun e he => (pK m.k1 m.k2 e he).same sf, by rw [m.k1]; exact m.nd, d.1.same sf, by rw [m.k1]; exact hs.1⟩
     have hl : es.length <= sizeLine := by
      have : es.length = acc.length := by simpa using congrArg List.length m.k1
      rw [this, dF]; exact hs.2
     have hst : storeAll p (u :: vs) = (do dictSet p u.1 u.2; storeAll p vs) := by
      unfold storeAll
      rw [List.forIn_cons]
      simp
     rw [hst]
     refine wpAny_bind (aIB hu D I r.1 r.2 hl fun s' I' => ?_)
     have m' := m.put d.1 d.2
     have sf' : aR F (upd H p (fD X.w p (mY es k x.1 x.2))) := fun a o z => by rw [aG (bG z hf)]; exact sf a o z
     refine ih ps vs _ res _ _ s' Q I' sf' hf aW m' ds rs e fun es' s'' I'' m'' => ?_
     rw [p8] at I''
     exact q es' s'' I'' m''
    ·cases e
def aGU (X : Cx) (tp : TP) : TE := fun σ H Q => ∀ p, H p = none -> tp σ (upd H p (fD X.w p [])) fun ps H2 => ∃ (F : Hp) (kvs res : List (PyData × PyData)), aR F H2 /\ F p = none /\ H2 p = some (fD X.w p []) /\ Paired (aFR X.K F) ps kvs /\ hX [] kvs = .ok res /\
 ∀ es', MapRel X.K F es' res -> Q (.ref p) (upd H2 p (fD X.w p es'))
theorem aID {keys : List (Option Expr)} {vals : List Expr} {tp : TP} (hu : X.A.units + 64 < cLine) (h : PPr X keys vals tp) (h1 : (keys.all fun x => x.isSome) = true := by rfl) (h2 : keys.length = vals.length := by rfl) (h3 : keys ≠ [] := by exact fun z => nomatch z) (h4 : keys.length <= 15 := by decide) : PE X (.Dict keys vals pos) (aGU X tp) := by
 intro pins s σ H Q I q
 have I1 := I.laid (a := s.heap.objs.size) (o := fD X.w s.heap.objs.size []) (t' := s.toks) (fun _ _ q => Heap.get?_push_of_some { cls := .type "dict", data := .dict #[] } q) (Nat.le_refl _)
  (lK (beq_eq_false_iff_ne.mpr (Ne.symm (Nat.ne_of_lt I.big))) ⟨_, #[], 0, Heap.get?_push_size _ rfl, ⟨rfl, rfl, rfl⟩, rfl, .nil⟩)
 have q1 := q _ (I.hok.fresh (Nat.le_refl _))
 refine wpAny_Dict_any h1 h2 h3 h4 (thn (h pos pins _ σ _ _ I1 q1) fun vs s2 zz0 => ?_)
 obtain ⟨ps, H2, I2, r, F, kvs, res, sf, hf, hp, d, e, z⟩ := zz0
 exact aD3 hu kvs ps vs [] res [] H2 s2 _ I2 sf hf hp ⟨rfl, .nil, .nil, List.nodup_nil⟩ d r e fun es' s' I' m => ⟨.ref s.heap.objs.size, _, I', rfl, z es' m⟩
def aK7 (c : Ct) (E : XK) (f : Sg -> R (List (PyData × PyData))) : TP := fun σ H Q => ∃ ρ F, Ab c ρ σ F H /\ Rk c E F H (f ρ) fun kvs => ∀ ps F' H', Ext F H F' H' -> Paired (aFR c.K F') ps kvs -> Q ps H'
abbrev PPf (X : Cx) (c : Ct) (E : XK) (keys : List (Option Expr)) (vals : List Expr) (f : Sg -> R (List (PyData × PyData))) : Prop := PPr X keys vals (aK7 c E f)
theorem PPr.imp {X : Cx} {ks : List (Option Expr)} {vs : List Expr} {t t' : TP} (h : PPr X ks vs t) (i : ∀ σ H Q, t' σ H Q -> t σ H Q) : PPr X ks vs t' := fun pos pins s σ H Q I q => h pos pins s σ H Q I (i σ H Q q)
noncomputable def aB5 : Sg -> R (List (PyData × PyData)) := fun _ => .ok []
def wU (f g : Sg -> R PyData) (r : Sg -> R (List (PyData × PyData))) : Sg -> R (List (PyData × PyData)) := fun ρ => (f ρ).bind fun x => (g ρ).bind fun y => (r ρ).bind fun t => .ok ((x, y) :: t)
theorem aIE : PPf X c E [] [] aB5 := PPr.imp aK6 fun σ H Q ⟨ρ, F, ab, k⟩ => Rk.ok k [] F H (Ext.refl ab.fh) .nil
theorem aFS {k v : Expr} {ks : List (Option Expr)} {vs : List Expr} {f g : Sg -> R PyData} {r : Sg -> R (List (PyData × PyData))} (hk : PD X c E k f) (hv : PD X c E v g) (hr : PPf X c E ks vs r) : PPf X c E (some k :: ks) (v :: vs) (wU f g r) := PPr.imp (aIC hk hv hr) fun σ H Q zz0 => by
 obtain ⟨ρ, F, ab, k⟩ := zz0
 refine ⟨ρ, F, ab, (Rk.bind k).imp fun x _ q v F1 H1 s1 r1 => ?_⟩
 refine ⟨ρ, F1, ab.ext s1, ((Rk.bind q).ext s1).imp fun y _ q u F2 H2 s2 r2 => ?_⟩
 refine ⟨ρ, F2, ab.ext (s1.trans s2), ((Rk.bind q).ext (s1.trans s2)).imp fun t _ q ps F3 H3 s3 r3 => ?_⟩
 exact Rk.ok q _ F3 H3 ((s1.trans s2).trans s3) (.cons ⟨DatV.same (s2.trans s3).ff r1, DatV.same s3.ff r2⟩ r3)
noncomputable def wV (i : Nat) (f : Sg -> R (List (PyData × PyData))) : Sg -> R Fw := fun ρ => (f ρ).bind fun kvs => (hX [] kvs).bind fun res => .ok (.nx (ρ.set i (some (.m res))))
theorem v6 : ∀ (kvs acc : List (PyData × PyData)) (x : Er), hX acc kvs ≠ .ex x
 | [], acc, x, h => by cases h
 | (k, v) :: t, acc, x, h => by
  unfold hX at h
  split at h
  · exact v6 t _ x h
  · cases h
theorem aIF {i : Nat} {f : Sg -> R (List (PyData × PyData))} (hK : X.K = c.K) (hW : X.w = c.w) (h : PS X st (kS (aGU X (aK7 c E f)) (jL i))) : PSf X c E st (wV i f) := PS.imp h fun D σ H ⟨ρ, F, ab, k⟩ => fun p hp => by
 have e1 := Ext.own (F := F) (o := fD X.w p []) ab.fh hp
 refine ⟨ρ, F, ab.ext e1, ((Rk.bind k).ext e1).imp fun kvs _ q ps F2 H2 s2 r2 => ?_⟩
 have hf : F2 p = none := s2.stay (cB ab.fh hp) aW (fun _ z => xV z)
 have h2 : H2 p = some (fD X.w p []) := s2.hh _ _ aW
 cases e : hX [] kvs with
 | bad => rw [e] at q; exact q.elim
 | ex x => exact absurd e (v6 _ _ _)
 | ok res =>
  rw [e] at q
  refine ⟨F2, kvs, res, s2.fh, hf, h2, by rw [hK]; exact r2, e, fun es' m => ?_⟩
  have e3 : Ext F H F2 (upd H2 p (fD X.w p es')) := by
   refine ⟨fun a o z => ?_, s2.ff, fun a o z => ?_, fun a z n => ?_⟩
   ·have ne : a ≠ p := bG z hp
    rw [aG ne]
    exact s2.hh a o (by rw [aG ne]; exact z)
   ·rw [aG (bG z hf)]; exact s2.fh a o z
   ·have := s2.nw a z n
    by_cases w : a = p
    · subst w; exact .inl hp
    · unfold mI at this; rw [aG w] at this; exact this
  rw [hW] at e3 ⊢
  rw [hK] at m
  exact Rk.ok q _ F2 _ s2.ff (ab.setM e3 hp aW hf m)
end
end Fl
namespace Fl
open PySem L2 PyProof.Rows
section
variable {X : Cx} {c : Ct} {E : XK} {e a b : Expr} {st : Stmt} {pos : Pos}
noncomputable def aK8 (i : Nat) (f g : Sg -> R PyData) : Sg -> R PyData := fun ρ => match ρ[i]? with
 | some (some (.m kvs)) => (f ρ).bind fun k => (g ρ).bind fun y => if eY k (kvs.map (·.1)) = true then .ok ((jQ kvs k).getD y) else .bad
 | _ => .bad
end
end Fl
namespace L2
open PySem PySem.Spec PyProof.Rows
def vB (X : Cx) (σ0 : St) (E : XK) (ev : Value) (s' : Shared) : Prop := ∃ e C od H', ev = .ref e /\ Inv X [] σ0 H' s' /\ FlyAt X H' s'.heap e C od false /\ E (.ref C) (some e) H'
abbrev Cx.flyS (X : Cx) (σ0 : St) (E : XK) : Cx := X.wish (vB X σ0 E)
section
variable {X : Cx}
theorem aM6 {E : XK} {σ : St} {pins : List (Addr × Obj)} {H : Hp} {s : Shared} {ev : Value} {s' : Shared} (I : Inv (X.flyS σ E) pins σ H s) (h : CXe X.prog X.w X.stack H s E ev s') : vB X σ E ev s' := by
 obtain ⟨e, C, od, H', rfl, os, bare, un, hok, he, ⟨vs, T, q1, q2, q3⟩, q⟩ := h
 have I0 : Inv X pins σ H s := I.unwish
 have I1 : Inv X [] σ H s := I0.pins_of fun p hp => absurd hp (by simp)
 have I2 : Inv X [] σ H' s' := I1.call' os un hok bare (fun b hb => absurd hb (by simp))
 refine ⟨e, C, od, H', rfl, I2, ⟨he, vs, T, q1, q2, fun t e1 => ?_, fun z => nomatch z⟩, q⟩
 obtain ⟨t1, t2⟩ := q3 t e1
 refine ⟨t1, Nat.le_trans I0.sz t2, fun p hp z => ?_⟩
 have := Heap.lt_size (I0.pin p (List.mem_append_left _ hp)).1
 rw [z] at this
 exact absurd (Nat.lt_of_lt_of_le this t2) (Nat.lt_irrefl _)
theorem aIG {CX : CXT} {k : Nat} {f : Addr} {fd : FuncData} {ps : List Str} {sp : Sp} {E : XK} {pins : List (Addr × Obj)} {σ : St} {H : Hp} {s : Shared} {Q : VK} {us : List Value} {vs : List V} {W : Value -> Shared -> Prop} (F : FnOk X.prog X.w X.K X.mg X.base CX k f fd ps sp) (hr : Room k X.A) (hb : gN X.K fd ps [])
  (hx : ∀ e s', CX X.stack H s E e s' -> W e s') (I : Inv X pins σ H s) (r : bN vs us) (h : sp (vs ++ []) H Q E) : wpAny (model X.prog X.w) X.A (call (.ref f) us) (EP X pins σ Q) W s := by
 have r2 : bN (vs ++ []) (us ++ []) := r.append .nil
 have hl : (us ++ []).length = ps.length := by rw [<- r2.length]; exact F.len _ _ _ _ h
 refine wpAny_call (codeAny_mono (F.run X.A X.stack s H ⟨us, []⟩ (us ++ []) (vs ++ []) Q E hr I.env0 (hb s us I.kIn hl) r2 h) fun r s' hq => ?_)
 cases r with
 | error e => exact hx e s' hq
 | ok fl =>
  cases fl with
  | ret u => exact I.after hq
  | next => exact False.elim hq
  | brk => exact False.elim hq
  | cont => exact False.elim hq
def PCl (X : Cx) (σ : St) (E : XK) (e : Expr) (t : TE) : Prop := ∀ (pins : List (Addr × Obj)) (s : Shared) (H : Hp) (Q : VK), Inv (X.flyS σ E) pins σ H s -> t σ H Q -> wpAny (model X.prog X.w) X.A (eval e X.env) (EP (X.flyS σ E) pins σ Q) (vB X σ E) s
theorem aK9 {k : Nat} {x : Str} {ps : List Str} {sp : Sp} {E : XK} {σ : St} {e : Expr} {es : List Expr} {t : TA} {p pos : Pos} (C : Calls X.prog X.w X.K X.mg X.base (CXe X.prog X.w) k x ps sp) (hr : Room k X.A) (hg : Gl X x) (ha : PA (X.flyS σ E) (e :: es) t) (hdb : (x == ("__debug__" : Str)) = false := by decide)
  (he : starEach (e :: es) X.env = (false, eval e X.env) :: starEach es X.env := by rfl) (hpl : (backTo pos (starEach es X.env)).any (·.1) = false := by rfl) : PCl X σ E (.Call (.Name x p) (e :: es) [] pos) (qA sp [] E t) := by
 obtain ⟨f, fd, F, b, m, kp⟩ := C
 intro pins s H Q I h
 refine wpAny_Call_Name_kw (j4 (X := X.flyS σ E) I hg m ?_ hdb)
 refine PySem.W.callWith_K (h₀ := X.base) I.ok.mod.kin kp (thn (ha pos pins s σ H _ I h) fun us s1 ⟨vs, H1, I1, r, q⟩ => ⟨I1.kIn, ?_⟩) he hpl
 exact aIG (X := X.flyS σ E) F hr b (fun e s' z => aM6 I1 z) I1 r q
theorem aM7 {i : Nat} {n x : Str} {Wc : Addr} {bmW : List Value} {body suite : List Stmt} {b0 : Stmt} {np hpos pos : Pos} (hO : mD X) (hN : X.N.Nodup) (hi : X.N[i]? = some n) (hk : X.env.scope.names.lookup n = some .local)
  (hg : Gl X x) (hm : X.mg x = some (.ref Wc)) (hw : SX.ExcAny X.K Wc bmW) (hdb : (x == ("__debug__" : Str)) = false) {pins : List (Addr × Obj)} {s : Shared} {σ : St} {H : Hp} {D : iR} {E : XK} (I : Inv X pins σ H s)
  (hb : wpAny (model X.prog X.w) X.A (execs body X.env) (fun f s1 => SP X pins D f s1) (vB (X.pnw (X.pn ++ pins)) σ E) s)
  (hh : ∀ (C e : Addr) (H' : Hp), (∃ od, H' e = some (ExO e C od)) -> E (.ref C) (some e) H' -> ∃ bm, SX.ExcAny X.K C bm /\ (Value.ref C :: bm).contains (.ref Wc) = true /\
   ∃ ts, PSs (X.inH e) (b0 :: suite) ts /\ ts { nx := fun σ2 H2 => D.nx (σ2.set i none) H2, rt := D.rt, bk := fun σ2 H2 => D.bk (σ2.set i none) H2, ct := fun σ2 H2 => D.ct (σ2.set i none) H2 } (σ.set i (some (.ref e))) H') :
  wpAny (model X.prog X.w) X.A (exec (.Try body [.ExceptHandler (some (.Name x np)) (some n) (b0 :: suite) hpos] [] [] pos) X.env) (SP X pins D) X.xe s := by
 refine wpAny_Try_except (wpAny_mono hb (fun f s1 q' => ?_) fun ev s1 q => ?_)
 ·cases f with
  | next => exact wpAny_execs_nil q'
  | brk => exact q'
  | cont => exact q'
  | ret u => exact q'
 ·obtain ⟨e, C, od, H1, rfl, I2, f2, q⟩ := q
  have hO' : mD (X.pnw (X.pn ++ pins)) := hO
  refine nZ (X := X.pnw (X.pn ++ pins)) hO' I2 f2 fun s3 I3 f3 => nF (X := X.pnw (X.pn ++ pins)) I3 f3 fun s4 I4 f4 => ?_
  have I4' : Inv X pins σ H1 s4 := I4.ofPn
  obtain ⟨bm, cA, hcon, ts, pts, qts⟩ := hh C e H1 ⟨od, f4.tr⟩ q
  refine wpAny_handleBy_cons (codeAny_handlers_test ?_) (by intro z; cases z)
  have IH : Inv (X.inH e) pins σ H1 s4 := I4'.inH e
  refine j4 (X := X.inH e) IH hg hm ?_ hdb
  obtain ⟨vs, hx⟩ := sX I4'.hok f4.tr
  refine SX.zR I4'.kIn cA hw hx rfl ?_
  rw [hcon]
  refine codeAny_handlers_suite_as ?_
  refine nF (X := X.pnw (X.pn ++ pins)) I4 f4 fun s5 I5 f5 => ?_
  have I5' : Inv X pins σ H1 s5 := I5.ofPn
  refine nX (X := X.inH e) (v := .ref e) (I5'.inH e) hN hi (.inl hk) rfl (fun s6 I6 => ?_) (.inr hk)
  refine wpAny_mono (pts pins s6 _ H1 _ I6 qts) (fun f s7 q7 => ?_) fun _ _ z => z.elim
  show wpAny _ _ (do bindName X.env n .none; unbindBehindTheSuite X.env n hpos) _ _ s7
  cases f with
  | next =>
   obtain ⟨σ7, H7, I7, q7⟩ := q7
   exact mE (I7.ofH I.ok) hN hi hk fun s8 I8 => ⟨_, _, I8, q7⟩
  | brk =>
   obtain ⟨σ7, H7, I7, q7⟩ := q7
   exact mE (I7.ofH I.ok) hN hi hk fun s8 I8 => ⟨_, _, I8, q7⟩
  | cont =>
   obtain ⟨σ7, H7, I7, q7⟩ := q7
   exact mE (I7.ofH I.ok) hN hi hk fun s8 I8 => ⟨_, _, I8, q7⟩
  | ret u =>
   obtain ⟨v, σ7, H7, I7, r7, q7⟩ := q7
   exact mE (I7.ofH I.ok) hN hi hk fun s8 I8 => ⟨v, _, _, I8, r7, q7⟩
theorem aD4 {e : Expr} {t : TE} {E : XK} {σ : St} {pos : Pos} {pins : List (Addr × Obj)} {s : Shared} {H : Hp} {D : iR} (hc : PCl (X.pnw (X.pn ++ pins)) σ E e t) (I : Inv X pins σ H s) (h : t σ H fun _ H1 => D.nx σ H1) (hs : swapsWith e none pos.line X.env = pure false := by rfl) :
  wpAny (model X.prog X.w) X.A (execs [.Expr e pos] X.env) (fun f s1 => SP X pins D f s1) (vB (X.pnw (X.pn ++ pins)) σ E) s := by
 have I1 := I.toPn
 have I1' : Inv ((X.pnw (X.pn ++ pins)).flyS σ E) [] σ H s := I1.wish _
 refine wpAny_execs_cons (thn (Q := fun f s1 => SP ((X.pnw (X.pn ++ pins)).flyS σ E) [] D f s1) (wpAny_Expr_any (thn (hc [] s H _ I1' h) fun v s1 ⟨x, H1, I1, r1, q1⟩ => ⟨σ, H1, I1, q1⟩) I1'.quiet hs) fun f s1 q => ?_)
 have q' := SP.ofPn q
 cases f with
 | next => exact wpAny_execs_nil q'
 | ret v => exact q'
 | brk => exact q'
 | cont => exact q'
end
end L2
namespace Fl
open PySem L2 PyProof.Rows
theorem Ab.off' {c : Ct} {ρ : Sg} {σ : L2.St} {F H : Hp} (b : Ab c ρ σ F H) (i : Nat) : Ab c (ρ.set i none) (σ.set i none) F H where
 len := by rw [List.length_set, List.length_set]; exact b.len
 fh := b.fh
 slot := fun j a h => by
  rcases get_set h with ⟨e, q, hl⟩ | ⟨ne, q⟩
  ·cases q
  ·obtain ⟨v, h1, h2⟩ := b.slot j a q
   exact ⟨v, by rw [List.getElem?_set_ne ne]; exact h1, h2⟩
 apart := fun j k a a' hne h1 h2 o1 o2 => by
  rcases get_set h1 with ⟨e, q, hl⟩ | ⟨ne, q⟩
  ·cases q
  ·rcases get_set h2 with ⟨e', q', hl'⟩ | ⟨ne', q'⟩
   ·cases q'
   ·rw [List.getElem?_set_ne ne, List.getElem?_set_ne ne']
    exact b.apart j k a a' hne q q' o1 o2
 f0 := b.f0
 h0 := b.h0
 n0 := b.n0
 t0 := b.t0
noncomputable def aFT (i : Nat) : Fw -> Fw
 | .nx ρ => .nx (ρ.set i none)
 | .bk ρ => .bk (ρ.set i none)
 | .ct ρ => .ct (ρ.set i none)
 | .rt a => .rt a
noncomputable def putO (j : Option Nat) (a : A) (ρ : Sg) : Sg := match j with
 | none => ρ
 | some j => ρ.set j (some a)
def yG (i : Nat) (j : Option Nat) (n : Nat) (G : List A -> R A) (f : Sg -> R (List A)) (cl : List Str) (fs : Sg -> R Fw) : Sg -> R Fw := fun ρ => match f ρ with
 | .ok as => if as.length = n then (match G as with
  | .bad => .bad
  | .ok a => .ok (.nx (putO j a ρ))
  | .ex e => if cl.contains e.c = true then (fs (ρ.set i (some (.x e)))).bind fun w => .ok (aFT i w) else .bad) else .bad
 | _ => .bad
def vC (K : Frag) (mg : Str -> Option Value) (Wc : Addr) (cl : List Str) : Prop := ∀ nm ∈ cl, ∃ C bm, mg nm = some (.ref C) /\ SX.ExcAny K C bm /\ (Value.ref C :: bm).contains (.ref Wc) = true
section
variable {X : Cx} {c : Ct} {E : XK}
theorem try_read {i n : Nat} {j : Option Nat} {nx x : Str} {Wc : Addr} {bmW : List Value} {body suite : List Stmt} {b0 : Stmt} {np hpos pos : Pos} {G : List A -> R A} {f : Sg -> R (List A)} {cl : List Str} {fs : Sg -> R Fw} (hK : X.K = c.K) (hM : X.mg = c.mg)
  (hO : mD X) (hN : X.N.Nodup) (hi : X.N[i]? = some nx) (hk : X.env.scope.names.lookup nx = some .local) (hg : Gl X x) (hm : X.mg x = some (.ref Wc)) (hw : SX.ExcAny X.K Wc bmW) (hdb : (x == ("__debug__" : Str)) = false)
  (hcl : vC X.K X.mg Wc cl)
  (hb : ∀ (pins : List (Addr × Obj)) (s : Shared) (σ : L2.St) (H : Hp) (D : iR) (E' : XK), Inv X pins σ H s -> qA (spF c.g X.K X.mg n G) [] E' (tAv c E f) σ H (fun v H1 => D.nx (match j with | none => σ | some j => σ.set j (some v)) H1) -> wpAny (model X.prog X.w) X.A (execs body X.env) (fun f s1 => SP X pins D f s1) (vB (X.pnw (X.pn ++ pins)) σ E') s)
  (hs : ∀ e, kT (X.inH e) c E (b0 :: suite) fs) : PSf X c E (.Try body [.ExceptHandler (some (.Name x np)) (some nx) (b0 :: suite) hpos] [] [] pos) (yG i j n G f cl fs) := by
 intro pins s σ H D I h
 obtain ⟨ρ, F, ab, k⟩ := h
 unfold yG at k
 cases hf : f ρ with
 | bad => rw [hf] at k; exact k.elim
 | ex z => rw [hf] at k; exact k.elim
 | ok as =>
  rw [hf] at k
  simp only at k
  by_cases hn : as.length = n
  ·rw [if_pos hn] at k
   let E' : XK := fun cv oa H' => ∃ C a e F', cv = .ref C /\ oa = some a /\ Ext F H F' H' /\ kA c.K c.mg F' e a C /\ G as = .ex e
   refine aM7 (E := E') hO hN hi hk hg hm hw hdb I (hb pins s σ H D E' I ?_) ?_
   ·refine ⟨ρ, F, ab, ?_⟩
    rw [hf]
    intro vs F1 H1 s1 r1
    refine ⟨F1, as, fun a o z => s1.ff a o (ab.f0 a o (ab.t0 a o z)), s1.fh, by rw [List.append_nil, hK, hM]; exact r1, hn, ?_⟩
    cases hG : G as with
    | bad => rw [hG] at k; exact k
    | ok a =>
     rw [hG] at k
     intro v F' H' s' r'
     rw [hK, hM] at r'
     have ab' := (ab.ext (s1.trans s'))
     refine Rk.ok k _ F' H' (s1.trans s').ff ?_
     cases j with
     | none => exact ab'
     | some j => exact ab'.setA r'
    | ex e =>
     intro a C F' H' s' r'
     rw [hK, hM] at r'
     exact ⟨C, a, e, F', rfl, rfl, s1.trans s', r', hG⟩
   ·rintro C e H' ⟨od, _⟩ ⟨C', a, er, F', h1, h2, s', r', hG⟩
    cases h1
    cases h2
    rw [hG] at k
    simp only at k
    by_cases hc : cl.contains er.c = true
    ·rw [if_pos hc] at k
     obtain ⟨C2, bm, m2, ca, co⟩ := hcl er.c (by simpa using hc)
     obtain ⟨m1, _⟩ := id r'
     rw [hM, m1] at m2
     cases m2
     refine ⟨bm, ca, co, _, hs e, ρ.set i (some (.x er)), F', (ab.ext s').setA ⟨e, C, rfl, r'⟩, ?_⟩
     have k' := (Rk.bind k).ext s'
     refine k'.imp fun w _ q => ?_
     cases w with
     | nx ρ2 => exact fun σ2 F2 H2 s2 ab2 => Rk.ok q _ F2 H2 (fun a o z => s2 a o (s'.ff a o z)) (ab2.off' i)
     | bk ρ2 => exact fun σ2 F2 H2 s2 ab2 => Rk.ok q _ F2 H2 (fun a o z => s2 a o (s'.ff a o z)) (ab2.off' i)
     | ct ρ2 => exact fun σ2 F2 H2 s2 ab2 => Rk.ok q _ F2 H2 (fun a o z => s2 a o (s'.ff a o z)) (ab2.off' i)
     | rt a => exact fun v F2 H2 s2 r2 => Rk.ok q v F2 H2 s2 r2
    ·rw [if_neg hc] at k; exact k.elim
  ·rw [if_neg hn] at k; exact k.elim
theorem aIH {i n : Nat} {nx x : Str} {Wc : Addr} {bmW : List Value} {suite : List Stmt} {b0 : Stmt} {call : Expr} {np hpos pos epos : Pos} {G : List A -> R A} {f : Sg -> R (List A)} {cl : List Str} {fs : Sg -> R Fw} (hK : X.K = c.K) (hM : X.mg = c.mg)
  (hO : mD X) (hN : X.N.Nodup) (hi : X.N[i]? = some nx) (hk : X.env.scope.names.lookup nx = some .local) (hg : Gl X x) (hm : X.mg x = some (.ref Wc)) (hw : SX.ExcAny X.K Wc bmW) (hcl : vC X.K X.mg Wc cl)
  (hc : ∀ pn σ E', PCl (X.pnw pn) σ E' call (qA (spF c.g X.K X.mg n G) [] E' (tAv c E f)))
  (hs : ∀ e, kT (X.inH e) c E (b0 :: suite) fs) (hdb : (x == ("__debug__" : Str)) = false := by decide) (hsw : swapsWith call none epos.line X.env = pure false := by rfl) :
  PSf X c E (.Try [.Expr call epos] [.ExceptHandler (some (.Name x np)) (some nx) (b0 :: suite) hpos] [] [] pos) (yG i none n G f cl fs) :=
 try_read (j := none) hK hM hO hN hi hk hg hm hw hdb hcl (fun pins s σ H D E' I h => aD4 (hc _ _ _) I h hsw) hs
noncomputable def eXF (i : Nat) (cs : List Str) (g : Str) : Sg -> R PyData := fun ρ => match ρ[i]? with
 | some (some (.x e)) => if cs.contains e.c = true then (match e.fs.lookup g with | some d => .ok d | none => .bad) else .bad
 | _ => .bad
def aLA (K : Frag) (mg : Str -> Option Value) (cs : List Str) (g : Str) : Prop := ∀ nm ∈ cs, ∃ W C, mg nm = some (.ref C) /\ SX.ExcC K W C /\ PySem.W.findIn K (.ref C) g = some none
theorem yH {K : Frag} {F : Hp} {g : Str} {d : PyData} : ∀ {fvs : List (Str × V)} {fs : List (Str × PyData)}, fvs.map (·.1) = fs.map (·.1) -> DatVs K F (fvs.map (·.2)) (fs.map (·.2)) -> fs.lookup g = some d -> ∃ v, fvs.lookup g = some v /\ DatV K F v d
 | [], [], _, _, h => by cases h
 | [], _ :: _, h, _, _ => by cases h
 | _ :: _, [], h, _, _ => by cases h
 | (a, v) :: fvs, (b, x) :: fs, h, r, e => by
  rw [List.map_cons, List.map_cons] at h r
  injection h with h1 h2
  obtain ⟨v', t, e1, r1, r2⟩ := r.cons_of
  rw [List.cons.injEq] at e1
  obtain ⟨rfl, rfl⟩ := e1
  simp only at h1
  subst h1
  rw [List.lookup_cons] at e ⊢
  cases q : (g == a) with
  | true => rw [q] at e; cases e; exact ⟨v, rfl, r1⟩
  | false => rw [q] at e; exact yH h2 r2 e
theorem aM8 {i : Nat} {cs : List Str} {g : Str} {e : Expr} (hK : X.K = c.K) (hM : X.mg = c.mg) (hc : aLA X.K X.mg cs g) (h : PE X e (aGG X.K (j3 i) g)) : PD X c E e (eXF i cs g) := PE.imp h fun σ H Q zz0 => by
 obtain ⟨ρ, F, ab, k⟩ := zz0
 unfold eXF at k
 split at k
 ·rename_i er hi
  split at k
  ·rename_i hcc
   split at k
   ·rename_i d hd
    obtain ⟨v, hv, a, C, rfl, m, od, h1, h2⟩ := ab.slot i _ hi
    obtain ⟨W, C2, m2, x1, x2⟩ := hc er.c (by simpa using hcc)
    rw [hM, m] at m2
    cases m2
    rcases h2 with h2 | ⟨dd, fvs, e1, e2, e3, e4⟩
    ·rw [h2.1] at hd; cases hd
    ·subst e1
     obtain ⟨u, u1, u2⟩ := yH e3 e4 hd
     exact ⟨_, hv, a, W, C, dd, fvs, u, rfl, x1, x2, ab.fh _ _ h1, ab.fh _ _ e2, u1, Rk.ok k u F H (Ext.refl ab.fh) u2⟩
   ·exact k.elim
  ·exact k.elim
 ·exact k.elim
end
end Fl
namespace Fl
open PySem L2 PyProof.Rows
section
variable {P : Program} {w : World} {K : Frag} {mg : Str -> Option Value} {base : Heap}
theorem yI {x : Str} {fs : List Str} {W C : Addr} (er : ErrAt P w K mg base x fs W C) : vC K mg C [x] := fun nm h => by
 rw [List.mem_singleton.mp h]
 exact ⟨C, _, er.m, er.c.any, by simp⟩
theorem aD5 {x : Str} {fs : List Str} {W C : Addr} (er : ErrAt P w K mg base x fs W C) {g : Str} (h : g ∈ fs) : aLA K mg [x] g := fun nm hn => by
 rw [List.mem_singleton.mp hn]
 exact ⟨W, C, er.m, er.c, er.na g h⟩
end
end Fl
namespace Fl
open PySem L2 PyProof.Rows
section
variable {X : Cx} {c : Ct} {E : XK} {e : Expr} {P : Program} {w : World} {base : Heap}
end
end Fl
namespace L2
open PySem PySem.Spec PyProof.Rows
theorem cE.got {P : Program} {w : World} {H : Hp} {h : Heap} {a : Addr} {o : HO} (x : cE P w H h a o) : ∃ u, h.get? a = some u := by
 cases o with
 | lst xs => obtain ⟨_, _, _, _, e⟩ := x; exact ⟨_, e⟩
 | tup xs => obtain ⟨_, _, _, ⟨o, e, _⟩⟩ := x; exact ⟨_, e⟩
 | dK kvs => obtain ⟨_, _, _, _, o, _, _, e, _⟩ := x; exact ⟨_, e⟩
 | dT kvs => obtain ⟨_, _, _, _, o, _, _, e, _⟩ := x; exact ⟨_, e⟩
 | set S n => obtain ⟨o, _, _, _, e, _⟩ := x; exact ⟨_, e⟩
 | ins C dx fs => obtain ⟨_, _, _, e, _⟩ := x; exact ⟨_, e⟩
 | own y => exact x
 | xd fs => obtain ⟨_, ⟨_, _, _, e, _⟩, _⟩ := x; exact ⟨_, e⟩
 | rng lo hi => obtain ⟨_, _, _, e⟩ := x; exact ⟨_, e⟩
 | frz ob u => exact ⟨_, x.1⟩
 | tbl ps => obtain ⟨_, e, _⟩ := x; exact ⟨_, e⟩
 | cod q => obtain ⟨c, o, vs, t, e, ho, _⟩ := x; cases e; exact ⟨_, ho⟩
 | met f y => exact ⟨_, x⟩
 | ext φ => exact x.2.1
theorem HOk.free {P : Program} {w : World} {H : Hp} {h : Heap} {a : Addr} (x : HOk P w H h) (e : h.get? a = none) : H a = none := by
 cases q : H a with
 | none => rfl
 | some u =>
  obtain ⟨o, z⟩ := (x a u q).got
  rw [e] at z; cases z
theorem Inv.laidN {X : Cx} {pins : List (Addr × Obj)} {σ : St} {H : Hp} {s : Shared} {h' : Heap} {a : Addr} {o : HO} {t' : Nat} (I : Inv X pins σ H s) (k : ∀ b u, s.heap.get? b = some u -> h'.get? b = some u) (hp : s.heap.get? a = none) (new : cE X.prog X.w (upd H a o) h' a o) :
  Inv X pins σ (upd H a o) { s with heap := h', toks := t' } := by
 have hn : H a = none := I.hok.free hp
 refine I.un ⟨fun b u q _ _ _ => k b u q, fun b u q _ _ _ => ⟨u.slots, k b u q⟩, fun b u q n _ => ?_, fun b u q _ => ⟨u, k b u q⟩, fun b xs q => by rw [aG (bG q hn)]; exact q, fun b u xs q => by rw [aG (bG q hn)]; exact q, fun b ps q => by rw [aG (bG q hn)]; exact q⟩ fun b u e => ?_
 ·rw [aG (fun z => by rw [z, hp] at q; cases q)]; exact n
 ·by_cases hb : b = a
  ·subst hb; rw [aW] at e; cases e; exact new
  ·rw [aG hb] at e
   exact (I.hok b u e).stay (fun c v _ q => k c v q) (fun c q => by rw [aG (bG q hn)]; exact q) (fun c xs q => by rw [aG (bG q hn)]; exact q) fun c xs q => by rw [aG (bG q hn)]; exact q
structure ErrP (K : Frag) (mg : Str -> Option Value) (x : Str) (W C : Addr) : Prop where
 c : SX.ExcC K W C
 m : mg x = some (.ref C)
 lk : ∃ nm q N bs sn sub ab col dd k0 k1 k2 k3 k5, K.lookup C = some (excClassObj nm q C N bs (.ref W :: SX.gG) true sn sub ab col dd k0 k1 k2 k3 k5 "ValueError.__new__") /\ PySem.W.nsOkIn K N = true /\ PySem.W.nsIn K N "__init__" = some none
 lw : ∃ c0 dd cd sl, K.lookup W = some ⟨c0, dd, .cls cd, sl⟩ /\ PySem.W.nsOkIn K cd.ns = true /\ PySem.W.nsIn K cd.ns "__init__" = some none
def vE (C : Addr) (E : XK) (ta : TA) : TS := fun _ σ H => ta σ H fun vs H1 => vs.length <= 1000 /\ ∀ e, H1 e = none -> E (.ref C) (some e) (upd H1 e (ExO e C none))
theorem aGV {K : Frag} {h : Heap} {N : Addr} {n : Str} (X : K.In h) (a : PySem.W.nsOkIn K N = true) (b : PySem.W.nsIn K N n = some none) : ∃ m, h.Ns N m /\ m n = none := by
 have := Heap.Ns.of_isNs (PySem.W.isNs_of_in X a)
 exact ⟨_, this, PySem.W.ns_none_of X this b⟩
section
variable {X : Cx} {E : XK} {W C : Addr} {x : Str} {np cpos pos : Pos} {e0 : Expr} {rest : List Expr} {ta : TA}
theorem v7 (hc : X.calm = true) (er : ErrP X.K X.mg x W C) (hg : Gl X x) (ha : PA (X.fly E) (e0 :: rest) ta) (hdb : (x == ("__debug__" : Str)) = false := by decide)
  (he : starEach (e0 :: rest) X.env = (false, eval e0 X.env) :: starEach rest X.env := by rfl) (hpl : (backTo cpos (starEach rest X.env)).any (·.1) = false := by rfl) :
  PS (X.fly E) (.Raise (some (.Call (.Name x np) (e0 :: rest) [] cpos)) none pos) (vE C E ta) := by
 intro pins s σ H D I h
 obtain ⟨nm, q, N, bs, sn, sub, ab, col, dd, k0, k1, k2, k3, k5, lk, nok, nno⟩ := er.lk
 obtain ⟨c0, dw, cd, sl, lw, wok, wno⟩ := er.lw
 have core : wpAny (model X.prog X.w) X.A (eval (.Call (.Name x np) (e0 :: rest) [] cpos) X.env) (fun v s1 => ∃ e od vs, v = .ref e /\ s1.heap.get? C = some (excClassObj nm q C N bs (.ref W :: SX.gG) true sn sub ab col dd k0 k1 k2 k3 k5 "ValueError.__new__") /\
   s1.heap.get? e = some { cls := .ref C, dict := od, data := .fields vs } /\ vs[1]? = some .none /\ Fly X E (.ref e) s1) (Fly X E) s := by
  refine wpAny_Call_Name_kw (j4 (X := X) I.unwish hg er.m ?_ hdb)
  refine PySem.W.callWith_K (h₀ := X.base) I.ok.mod.kin er.c.kp (thn (ha cpos pins s σ H _ I h) fun us s1 ⟨vs, H1, I1', r, hz, q1⟩ => ⟨I1'.kIn, ?_⟩) he hpl
  have I1 : Inv X pins σ H1 s1 := I1'.unwish
  obtain ⟨hp, g, d, tk, os⟩ := s1
  have hz' : us.length <= sizeLine := by rw [<- r.length, sizeLine_eq]; omega
  have kin : X.K.In hp := I1.kIn
  obtain ⟨mN, hN, hN0⟩ := aGV kin nok nno
  obtain ⟨mW, hW, hW0⟩ := aGV kin wok wno
  refine wpAny_call_exc_subT PySem.F.excBase_ValueError (.own (kin _ _ lw) hW hW0 .base) (kin _ _ lk) hN hN0 (fun h' e hm' => ?_) hz'
  obtain ⟨t, het, _, _⟩ := hm'.there
  have I2 : Inv X pins σ (upd H1 e (ExO e C none)) ⟨h', g, d, tk, os⟩ := I1.laidN (t' := tk) hm'.keeps hm'.new (xE het)
  have q2 := q1 e (I1.hok.free hm'.new)
  have I5 : Inv X [] σ (upd H1 e (ExO e C none)) ⟨h', g, d, tk, os⟩ := I2.pins_of fun p hp => absurd hp (by simp)
  exact ⟨e, none, _, rfl, I2.kIn _ _ lk, het, rfl, e, C, none, σ, _, rfl, I5, ⟨aW, _, none, het, rfl, (fun t z => nomatch z), (fun z => nomatch z)⟩, q2⟩
 show wpAny (model X.prog X.w) X.A (exec (.Raise (some (.Call (.Name x np) (e0 :: rest) [] cpos)) none pos) X.env) _ (Fly X E) s
 rw [arm_exec_Raise]
 first
  | refine wpAny_bind (wpAny_standAt (SX.k7 (SX.uM W) (I.ok.hd hc) (wpAny_bind (wpAny_mono core (fun v s1 h1 => wpAny_bind (wpAny_standAt (wpAny_pure h1))) fun _ _ z => z))))
  | (simp only [evalOpt, Option.map]; refine wpAny_bind (wpAny_standAt (SX.k7 (SX.uM W) (I.ok.hd hc) (wpAny_bind (wpAny_mono core (fun v s1 h1 => wpAny_bind (wpAny_standAt (wpAny_pure h1))) fun _ _ z => z)))))
end
def few (i : Int) : Prop := i = 40 \/ i = 60 \/ i = 200 \/ i = 300
theorem aII {i : Int} (h : few i) : (Str.ofString (toString i)).length <= 10 /\ i.natAbs.log2 < 1920 := by
 rcases h with rfl | rfl | rfl | rfl <;> decide +kernel
theorem iL (x y : Str) : (x ++ y).length = x.length + y.length := by
 show (x.cps ++ y.cps).size = x.cps.size + y.cps.size
 simp
def aLB (ta : TE) : TE := fun σ H Q => ta σ H fun x H1 => ∃ i : Int, x = .int i /\ few i /\ ∀ z : Str, Q (.str z) H1
theorem aLC {X : Cx} {v : Expr} {ta : TE} {a b : Str} {k1 k2 : Nat} {p1 p2 p3 pos : Pos} (hv : PE X v ta) (ha : a.length <= 1000 := by decide) (hb : b.length <= 1000 := by decide) :
  PE X (.JoinedStr [.Constant (.str a) k1 p1, .FormattedValue v (-1) none p2, .Constant (.str b) k2 p3] pos) (aLB ta) := by
 intro pins s σ H Q I h
 have hsz : sizeLine = 16777216 := rfl
 have h0 : (Str.empty).length = 0 := rfl
 refine wpAny_JoinedStr (Joins_cons (thn (wZ (X := X) pins s σ H (fun y H1 => y = .str a /\ H1 = H) I ⟨rfl, rfl⟩) fun u s1 zz0 => ?_))
 obtain ⟨y, H1, I1, r1, e1, e2⟩ := zz0
 subst e1 e2
 obtain ⟨t1, rfl⟩ := r1
 refine ⟨a, t1, rfl, by rw [iL, h0]; omega, Joins_cons (wpAny_FormattedValue_plain (thn (hv pins s1 σ _ _ I1 h) fun u s2 zz0 => ?_))⟩
 obtain ⟨y, H2, I2, r2, i, e, hf, q⟩ := zz0
 subst e
 obtain ⟨t2, rfl⟩ := r2
 obtain ⟨f1, f2⟩ := aII hf
 refine wpAny_formatField_int f2 ⟨_, _, rfl, by rw [iL, iL, h0]; omega, Joins_cons (thn (wZ (X := X) pins _ σ H2 (fun y H1 => y = .str b /\ H1 = H2) (I2.tok _) ⟨rfl, rfl⟩) fun u s3 zz0 => ?_)⟩
 obtain ⟨y, H3, I3, r3, e1, e2⟩ := zz0
 subst e1 e2
 obtain ⟨t3, rfl⟩ := r3
 refine ⟨b, t3, rfl, by rw [iL, iL, iL, h0]; omega, Joins_nil ⟨by rw [iL, iL, iL, h0]; omega, ?_⟩⟩
 exact ⟨.str _, _, I3.tok _, ⟨_, rfl⟩, q _⟩
end L2
namespace Fl
open PySem L2 PyProof.Rows
instance (i : Int) : Decidable (few i) := by unfold few; infer_instance
def aIJ (cn : Str) (f : Sg -> R (List PyData)) : Sg -> R Fw := fun ρ => (f ρ).bind fun xs => if xs.length <= 1000 then .ex ⟨cn, []⟩ else .bad
def aAQ (cn : Str) (g : Sg -> R PyData) : Sg -> R Fw := fun ρ => (g ρ).bind fun x => match x with
 | .int i => if few i then .ex ⟨cn, []⟩ else .bad
 | _ => .bad
section
variable {X : Cx} {c : Ct} {E : XK} {st : Stmt} {cn : Str} {C : Addr}
theorem v7 {f : Sg -> R (List PyData)} (hm : c.mg cn = some (.ref C)) (h : PS X st (vE C E (tAd c E f))) : PSf X c E st (aIJ cn f) := PS.imp h fun D σ H zz0 => by
 obtain ⟨ρ, F, ab, k⟩ := zz0
 refine ⟨ρ, F, ab, (Rk.bind k).imp fun xs _ q vs F1 H1 s1 r1 => ?_⟩
 by_cases hn : xs.length <= 1000
 ·rw [if_pos hn] at q
  exact ⟨by rw [r1.length]; exact hn, fun e he => q e C _ _ ((ab.all.trans s1).trans (Ext.new s1.fh he)) ⟨hm, none, aW, .inl ⟨rfl, rfl⟩⟩⟩
 ·rw [if_neg hn] at q; exact q.elim
theorem aD6 {g : Sg -> R PyData} (hm : c.mg cn = some (.ref C)) (h : PS X st (vE C E (gM (aLB (tV (bR c) c E g)) j6))) : PSf X c E st (aAQ cn g) := PS.imp h fun D σ H zz0 => by
 obtain ⟨ρ, F, ab, k⟩ := zz0
 refine ⟨ρ, F, ab, (Rk.bind k).imp fun x hx q v F1 H1 s1 r1 => ?_⟩
 clear hx
 split at q
 ·rename_i i
  split at q
  ·rename_i hf
   obtain rfl := a7.int_of r1
   exact ⟨i, rfl, hf, fun z => ⟨by show 1 <= 1000; decide, fun e he => q e C _ _ ((ab.all.trans s1).trans (Ext.new s1.fh he)) ⟨hm, none, aW, .inl ⟨rfl, rfl⟩⟩⟩⟩
  ·exact q.elim
 ·exact q.elim
end
end Fl
namespace L2
open PySem
noncomputable def aLD (e : DictEntry) : Bool := match e.key with
 | .str _ _ => true
 | _ => false
theorem aAR {K : Frag} {N : Addr} {cl : Value} {d : Option Addr} {es : Array DictEntry} {ep : Nat} {sl : Array (Option Value)} (l : K.lookup N = some ⟨cl, d, .dict es ep, sl⟩) (h : es.toList.all aLD = true) : PySem.W.nsOkIn K N = true := by
 unfold PySem.W.nsOkIn
 rw [show List.lookup N K = some ⟨cl, d, .dict es ep, sl⟩ from l]
 show es.all _ = true
 rw [<- Array.all_toList]
 exact h
end L2
namespace Fl
open PySem L2 PyProof.Rows
end Fl
namespace HT
open PySem PySem.Spec PyProof.Rows L2
end HT
namespace Fl
open PySem L2 PyProof.Rows
def FnK (K : Frag) (H : Hp) (f : Addr) : Prop := PySem.W.keepIn K (.ref f) = true \/ ∃ oc od fd sl, H f = some (FnO f ⟨oc, od, .func fd, sl⟩)
def yJ (X : Cx) (i : Nat) (E : XK) (t : TA) : TE := fun σ H Q => ∃ f, σ[i]? = some (some (.ref f)) /\ FnK X.K H f /\ t σ H fun vs H1 => FnK X.K H1 f /\ ∃ k fd ps sp, Room k X.A /\ FnOk X.prog X.w X.K X.mg X.base (CXe X.prog X.w) k f fd ps sp /\ gN X.K fd ps [] /\ sp vs H1 Q E
theorem yK {X : Cx} {i : Nat} {x : Str} {E : XK} {p pos : Pos} {e : Expr} {es : List Expr} {t : TA} (hn : PE X (.Name x p) (j3 i)) (hx : lP (CXe X.prog X.w) X E) (ha : PA X (e :: es) t)
  (he : starEach (e :: es) X.env = (false, eval e X.env) :: starEach es X.env := by rfl) (hpl : (backTo pos (starEach es X.env)).any (·.1) = false := by rfl) : PE X (.Call (.Name x p) (e :: es) [] pos) (yJ X i E t) := by
 intro pins s σ H Q I h
 obtain ⟨f, hf, hk, h⟩ := h
 refine wpAny_Call_Name_kw (thn (hn pins s σ H (fun v H' => v = .ref f /\ H' = H) I ⟨_, hf, rfl, rfl⟩) fun u s0 zz0 => ?_)
 obtain ⟨v, H0, I0, rv, e1, e2⟩ := zz0
 subst e1 e2
 obtain rfl : u = Value.ref f := rv
 have fin : ∀ (us : List Value) (s1 : Shared), AP X pins σ (fun vs H1 => FnK X.K H1 f /\ ∃ k fd ps sp, Room k X.A /\ FnOk X.prog X.w X.K X.mg X.base (CXe X.prog X.w) k f fd ps sp /\ gN X.K fd ps [] /\ sp vs H1 Q E) us s1 ->
   (∃ H1, Inv X pins σ H1 s1 /\ FnK X.K H1 f) /\ wpAny (model X.prog X.w) X.A (call (.ref f) us) (EP X pins σ Q) X.xe s1 := by
  rintro us s1 ⟨vs, H1, I1, r, hk1, k, fd, ps, sp, hr, F, hb, q⟩
  refine ⟨⟨H1, I1, hk1⟩, aCZ (dvs := []) (ds := []) F hr hb .nil hx I1 r ?_⟩
  rw [List.append_nil]; exact q
 rcases hk with hk | ⟨oc, od, fd, sl, hk⟩
 ·refine PySem.W.callWith_K (h₀ := X.base) I0.ok.mod.kin hk (thn (ha pos pins s0 σ H0 _ I0 h) fun us s1 hq => ?_) he hpl
  obtain ⟨⟨H1, I1, _⟩, q⟩ := fin us s1 hq
  exact ⟨I1.kIn, q⟩
 ·refine PySem.W.callWith_F ⟨oc, od, fd, sl, FnO.get I0.hok hk⟩ (thn (ha pos pins s0 σ H0 _ I0 h) fun us s1 hq => ?_) he hpl
  obtain ⟨⟨H1, I1, hk1⟩, q⟩ := fin us s1 hq
  refine ⟨?_, q⟩
  rcases hk1 with hk1 | ⟨oc, od, fd, sl, hk1⟩
  ·cases e : X.K.lookup f with
   | none => unfold PySem.W.keepIn at hk1; dsimp only at hk1; rw [e] at hk1; cases hk1
   | some o =>
    have e1 := I1.kIn f o e
    exfalso
    have e2 := I0.kIn f o e
    obtain ⟨o', h1, h2⟩ : ∃ o', H0 f = some (FnO f o') /\ True := ⟨_, hk, trivial⟩
    have e3 := I0.bs f o (I0.ok.mod.kin f o e)
    rw [e3.2] at h1; cases h1
  ·exact ⟨oc, od, fd, sl, FnO.get I1.hok hk1⟩
def yL (m i : Nat) (f : Sg -> R (List PyData)) : Sg -> R PyData := fun ρ => match ρ[i]? with
 | some (some (.g k n G)) => (f ρ).bind fun ds => if k <= m /\ ds.length = n then G ds else .bad
 | _ => .bad
theorem aLE {X : Cx} {c : Ct} {E : XK} {e : Expr} {m i : Nat} {T : Hp} {f : Sg -> R (List PyData)} (hG : c.g = gOf X.prog X.w X.K X.mg X.base T) (hK : X.K = c.K) (hM : X.mg = c.mg) (hr : Room m X.A) (h : PE X e (yJ X i E (tAd c E f))) : PD X c E e (yL m i f) := PE.imp h fun σ H Q zz0 => by
 obtain ⟨ρ, F, ab, k⟩ := zz0
 unfold yL at k
 split at k
 ·rename_i lv n G hi
  obtain ⟨v, hv, hA⟩ := ab.slot i _ hi
  obtain ⟨fa, F1, rfl, s1, B⟩ := (show AF c.g c.K c.mg F (.g lv n G) v from hA)
  rw [hG] at B
  obtain ⟨fd, ps, hps, hb, FO, hk⟩ := (show Beh X.prog X.w X.K X.mg X.base T fa F1 lv n G from B)
  have hk1 : ∀ F' H', aR F F' -> aR F' H' -> FnK X.K H' fa := fun F' H' a1 a2 => hk.imp id fun ⟨oc, od, fd, sl, e⟩ => ⟨oc, od, fd, sl, a2 _ _ (a1 _ _ (s1 _ _ e))⟩
  refine ⟨fa, hv, hk1 F H (cN F) ab.fh, ρ, F, ab, (Rk.bind k).imp fun ds _ q vs F' H' e1 r => ?_⟩
  refine ⟨hk1 F' H' e1.ff e1.fh, ?_⟩
  by_cases hn : lv <= m /\ ds.length = n
  ·rw [if_pos hn] at q
   refine ⟨lv, fd, ps, _, hr.mono hn.1, FO, hb, F', ds, fun a o z => e1.ff a o (s1 a o z), fun a o z => e1.ff a o (ab.f0 a o (ab.t0 a o (by rw [hG]; exact z))), e1.fh, by rw [hK]; exact r, hn.2, ?_⟩
   cases hg : G ds with
   | bad => rw [hg] at q; exact q
   | ok d => rw [hg] at q; exact fun v F2 H2 e2 r2 => Rk.ok q v F2 H2 (e1.trans e2) (by rw [hK] at r2; exact r2)
   | ex x => rw [hg] at q; exact fun a C F2 H2 e2 r2 => q a C F2 H2 ((ab.all.trans e1).trans e2) (by rw [hK, hM] at r2; exact r2)
  ·rw [if_neg hn] at q; exact q.elim
 ·exact k.elim
noncomputable def qL : PyData -> Bool
 | .none => true
 | .bool _ => true
 | .int _ => true
 | .str _ => true
 | _ => false
theorem aFU {K : Frag} {F F' : Hp} {v : V} {d : PyData} (h : qL d = true) (r : DatV K F v d) : DatV K F' v d := by
 cases d with
 | none => cases r; exact .non
 | bool b => cases r; exact .bl b
 | int i => cases r; exact .int i
 | str x => cases r; exact .str x
 | list xs => cases h
 | tuple xs => cases h
 | dict xs => cases h
def oN (K : Frag) (F H : Hp) : List V -> List PyData -> Prop
 | [], [] => True
 | v :: vs, d :: ds => a7 K F H v d /\ oN K F H vs ds
 | _, _ => False
theorem oN.ext {K : Frag} {F H F' H' : Hp} (e : Ext F H F' H') : ∀ {vs : List V} {ds : List PyData}, oN K F H vs ds -> oN K F' H' vs ds
 | [], [], _ => trivial
 | v :: vs, d :: ds, h => ⟨a7.ext e h.1, oN.ext e h.2⟩
def tAr (c : Ct) (E : XK) (f : Sg -> R (List PyData)) : TA := fun σ H Q => ∃ ρ F, Ab c ρ σ F H /\ Rk c E F H (f ρ) fun ds => ∀ vs F' H', Ext F H F' H' -> oN c.K F' H' vs ds -> Q vs H'
theorem aIK {X : Cx} {c : Ct} {E : XK} : PA X [] (tAr c E aL) := PA.imp aQ fun σ H Q ⟨ρ, F, ab, k⟩ => Rk.ok k [] F H (Ext.refl ab.fh) trivial
theorem yM {X : Cx} {c : Ct} {E : XK} {e : Expr} {es : List Expr} {f : Sg -> R PyData} {g : Sg -> R (List PyData)} (h : PR X c E e f) (h2 : PA X es (tAr c E g)) (hs : starEach (e :: es) X.env = (false, eval e X.env) :: starEach es X.env := by rfl) : PA X (e :: es) (tAr c E (aB f g)) := PA.imp (aK h h2 hs) fun σ H Q zz0 => by
 obtain ⟨ρ, F, ab, k⟩ := zz0
 refine ⟨ρ, F, ab, (Rk.bind k).imp fun x _ q v F1 H1 s1 r1 => ⟨ρ, F1, ab.ext s1, ((Rk.bind q).ext s1).imp fun xs _ q vs F2 H2 s2 r2 => ?_⟩⟩
 exact Rk.ok q (v :: vs) F2 H2 (s1.trans s2) ⟨a7.ext s2 r1, r2⟩
theorem aLF {K : Frag} {F H : Hp} (s : aR F H) : ∀ {vs : List V} {ds : List PyData}, oN K F H vs ds -> ∃ FL, aR F FL /\ aR FL H /\ DatVs K FL vs ds
 | [], [], _ => ⟨F, cN F, s, .nil⟩
 | v :: vs, d :: ds, h => by
  obtain ⟨FL, a, b, r⟩ := aLF s h.2
  rcases h.1 with q | ⟨p, us, xs, rfl, rfl, h1, h2⟩
  ·exact ⟨FL, a, b, .cons (q.same a) r⟩
  ·refine ⟨fun x => if x = p then some (.lst us) else FL x, fun x o z => ?_, fun x o z => ?_, ?_⟩
   ·by_cases hx : x = p
    ·subst hx
     have := s x o z
     rw [h1] at this; cases this
     exact if_pos rfl
    ·exact (if_neg hx).trans (a x o z)
   ·by_cases hx : x = p
    ·subst hx
     have z' := (if_pos rfl).symm.trans z
     rw [h1]; exact z'
    ·exact b x o ((if_neg hx).symm.trans z)
   ·have sm : aR FL (fun x => if x = p then some (.lst us) else FL x) := fun x o z => by
     by_cases hx : x = p
     ·subst hx
      have := b x o z
      rw [h1] at this; cases this
      exact if_pos rfl
     ·exact (if_neg hx).trans z
    exact .cons (.lst (SqL.of (if_pos rfl)) (h2.same fun x o z => sm x o (a x o z))) (r.same sm)
def tO (m i : Nat) (f : Sg -> R (List PyData)) : Sg -> R PyData := fun ρ => match ρ[i]? with
 | some (some (.g k n G)) => (f ρ).bind fun ds => if k <= m /\ ds.length = n then (match G ds with | .ok d => if qL d = true then .ok d else .bad | _ => .bad) else .bad
 | _ => .bad
theorem aIL {X : Cx} {c : Ct} {E : XK} {e : Expr} {m i : Nat} {T : Hp} {f : Sg -> R (List PyData)} (hG : c.g = gOf X.prog X.w X.K X.mg X.base T) (hK : X.K = c.K) (hM : X.mg = c.mg) (hr : Room m X.A) (h : PE X e (yJ X i E (tAr c E f))) : PD X c E e (tO m i f) := PE.imp h fun σ H Q zz0 => by
 obtain ⟨ρ, F, ab, k⟩ := zz0
 unfold tO at k
 split at k
 ·rename_i lv n G hi
  obtain ⟨v, hv, hA⟩ := ab.slot i _ hi
  obtain ⟨fa, F1, rfl, s1, B⟩ := (show AF c.g c.K c.mg F (.g lv n G) v from hA)
  rw [hG] at B
  obtain ⟨fd, ps, hps, hb, FO, hk⟩ := (show Beh X.prog X.w X.K X.mg X.base T fa F1 lv n G from B)
  have hk1 : ∀ F' H', aR F F' -> aR F' H' -> FnK X.K H' fa := fun F' H' a1 a2 => hk.imp id fun ⟨oc, od, fd, sl, e⟩ => ⟨oc, od, fd, sl, a2 _ _ (a1 _ _ (s1 _ _ e))⟩
  refine ⟨fa, hv, hk1 F H (cN F) ab.fh, ρ, F, ab, (Rk.bind k).imp fun ds _ q vs F' H' e1 r => ?_⟩
  refine ⟨hk1 F' H' e1.ff e1.fh, ?_⟩
  by_cases hn : lv <= m /\ ds.length = n
  ·rw [if_pos hn] at q
   obtain ⟨FL, a, b, r'⟩ := aLF e1.fh r
   refine ⟨lv, fd, ps, _, hr.mono hn.1, FO, hb, FL, ds, fun x o z => a x o (e1.ff x o (s1 x o z)), fun x o z => a x o (e1.ff x o (ab.f0 x o (ab.t0 x o (by rw [hG]; exact z)))), b, by rw [hK]; exact r', hn.2, ?_⟩
   cases hg : G ds with
   | bad => rw [hg] at q; exact q
   | ok d =>
    rw [hg] at q
    intro v F2 H2 e2 r2
    have q' : Rk c E F H (if qL d = true then R.ok d else .bad) _ := q
    by_cases hf : qL d = true
    ·rw [if_pos hf] at q'
     refine Rk.ok q' v F' H2 (e1.trans ⟨e2.hh, cN F', fun x o z => e2.hh x o (e1.fh x o z), fun x z n => absurd z n⟩) (by rw [hK] at r2; exact aFU hf r2)
    ·rw [if_neg hf] at q'; exact q'.elim
   | ex x => rw [hg] at q; exact q.elim
  ·rw [if_neg hn] at q; exact q.elim
 ·exact k.elim
end Fl
namespace Fl
open PySem L2 PyProof.Rows
theorem aIM {K : Frag} {F : Hp} {cs : List Addr} {a : Addr} {xs : List V} (hc : Celd cs F) (h : SqL K F a xs) : SqL K (hid cs F) a xs := by
 rcases h with (h | ⟨o, h⟩) | h
 · exact .inl (.inl (by rw [bW (hc.out h fun _ v z => nomatch z)]; exact h))
 · exact .inl (.inr ⟨o, by rw [bW (hc.out h fun _ v z => by unfold eN at z; cases z)]; exact h⟩)
 · exact .inr h
theorem aIN {K : Frag} {F : Hp} {cs : List Addr} {a : Addr} {xs : List V} (hc : Celd cs F) (h : SqT K F a xs) : SqT K (hid cs F) a xs := by
 rcases h with (h | ⟨o, h⟩) | h
 · exact .inl (.inl (by rw [bW (hc.out h fun _ v z => nomatch z)]; exact h))
 · exact .inl (.inr ⟨o, by rw [bW (hc.out h fun _ v z => by unfold eN at z; cases z)]; exact h⟩)
 · exact .inr h
mutual
theorem aAS {K : Frag} {F : Hp} {cs : List Addr} (hc : Celd cs F) : ∀ {v : V} {d : PyData}, DatV K F v d -> DatV K (hid cs F) v d
 | _, _, .non => .non
 | _, _, .bl b => .bl b
 | _, _, .int i => .int i
 | _, _, .str x => .str x
 | _, _, .lst h r => .lst (aIM hc h) (lZ hc r)
 | _, _, .tup h r => .tup (aIN hc h) (lZ hc r)
theorem lZ {K : Frag} {F : Hp} {cs : List Addr} (hc : Celd cs F) : ∀ {vs : List V} {ds : List PyData}, DatVs K F vs ds -> DatVs K (hid cs F) vs ds
 | _, _, .nil => .nil
 | _, _, .cons h r => .cons (aAS hc h) (lZ hc r)
end
theorem aIO {e C b : Addr} {od : Option Addr} {o : Obj} {v : V} (h : ExO e C od = eN b o v) : False := by unfold ExO eN at h; cases h
theorem aFV {K : Frag} {mg : Str -> Option Value} {F : Hp} {e : Er} {a C : Addr} {cs : List Addr} (hc : Celd cs F) (h : kA K mg F e a C) : kA K mg (hid cs F) e a C /\ a ∉ cs := by
 obtain ⟨m, od, h1, h2⟩ := h
 have ha := hc.out h1 fun _ v z => aIO z
 refine ⟨⟨m, od, by rw [bW ha]; exact h1, h2.imp id ?_⟩, ha⟩
 rintro ⟨d, fvs, e1, e2, e3, e4⟩
 exact ⟨d, fvs, e1, by rw [bW (hc.out e2 fun _ v z => nomatch z)]; exact e2, e3, lZ hc e4⟩
theorem yN {cv : Cv} {H F2 : Hp} (s : aR (pub cv H) F2) : Celd (dA cv) F2 := fun b hb => by
 obtain ⟨p, e⟩ := gX.mp hb
 exact ⟨p.1, p.2, s _ _ (o8 e)⟩
theorem aFW {cv : Cv} {F H : Hp} (s : aR F H) : aR (pub cv F) (pub cv H) := fun b o e => by
 by_cases hb : b ∈ dA cv
 ·obtain ⟨p, q⟩ := gX.mp hb
  rw [o8 q] at e ⊢; exact e
 ·rw [eO hb] at e ⊢; exact s b o e
theorem v8 {cv : Cv} {F H F2 H2 : Hp} (hd : ∀ b ∈ dA cv, H b = none) (s : aR F H) (e : Ext (pub cv F) (pub cv H) F2 H2) : Ext F H (hid (dA cv) F2) (hid (dA cv) H2) := by
 have hF : ∀ b ∈ dA cv, F b = none := fun b hb => cB s (hd b hb)
 have outH : ∀ b o, H b = some o -> b ∉ dA cv := fun b o q z => by rw [hd b z] at q; cases q
 have outF : ∀ b o, F b = some o -> b ∉ dA cv := fun b o q z => by rw [hF b z] at q; cases q
 refine ⟨fun b o q => ?_, fun b o q => ?_, fun b o q => ?_, fun b q n => ?_⟩
 ·have hb := outH b o q
  rw [bW hb]; exact e.hh b o (by rw [eO hb]; exact q)
 ·have hb := outF b o q
  rw [bW hb]; exact e.ff b o (by rw [eO hb]; exact q)
 ·obtain ⟨q1, hb⟩ := n6 q
  rw [bW hb]; exact e.fh b o q1
 ·by_cases hb : b ∈ dA cv
  ·exact absurd (nH hb) n
  ·rw [bW hb] at n
   have := e.nw b (by rw [eO hb]; exact q) n
   unfold mI at this ⊢
   rw [eO hb] at this; exact this
noncomputable def dOf : R A -> R PyData
 | .ok (.d x) => .ok x
 | .ok _ => .bad
 | .ex e => .ex e
 | .bad => .bad
def CloOk (P : Program) (w : World) (K : Frag) (mg : Str -> Option Value) (base : Heap) (T : Hp) (S : ClSt) (fr : List Str) (k n : Nat) (Gm : List A -> List PyData -> R PyData) : Prop :=
 ∀ (F0 F1 : Hp) (caps : List A) (cvs : List V) (f : Addr) (cl : List (Str × Addr)) (doc pm ct : Value) (cc : Addr), aR T F0 -> AFs (gOf P w K mg base T) K mg F0 caps cvs -> aR F0 F1 ->
  F1 f = some (FnO f (S.obj cl doc pm cc ct)) -> F1 cc = some (.cod S.qual) -> CapAt F1 fr cl cvs -> (∀ c ∈ aY fr cl, F0 c = none) -> Beh P w K mg base T f F1 k n (Gm caps)
theorem aAT {cs : List Addr} {F H F2 H2 : Hp} (s : aR F H) (hc : Celd cs F) (hn : ∀ c ∈ cs, H2 c = none) (e : Ext (hid cs F) (hid cs H) F2 H2) : Ext F H (shw cs F F2) (shw cs H H2) /\ aR F2 (shw cs F F2) := by
 have hF : ∀ c ∈ cs, F2 c = none := fun c h => cB e.fh (hn c h)
 refine ⟨⟨fun b o q => ?_, fun b o q => ?_, fun b o q => ?_, fun b q n => ?_⟩, fun b o q => ?_⟩
 ·by_cases hb : b ∈ cs
  ·rw [o7 hb]; exact q
  ·rw [eM hb]; exact e.hh b o (by rw [bW hb]; exact q)
 ·by_cases hb : b ∈ cs
  ·rw [o7 hb]; exact q
  ·rw [eM hb]; exact e.ff b o (by rw [bW hb]; exact q)
 ·by_cases hb : b ∈ cs
  ·rw [o7 hb] at q ⊢; exact s b o q
  ·rw [eM hb] at q ⊢; exact e.fh b o q
 ·by_cases hb : b ∈ cs
  ·obtain ⟨o, v, z⟩ := hc b hb
   rw [z] at q; cases q
  ·rw [eM hb] at n
   have := e.nw b (by rw [bW hb]; exact q) n
   unfold mI at this ⊢
   rw [bW hb] at this; exact this
 ·rw [eM fun z => by rw [hF b z] at q; cases q]; exact q
theorem AFs.data {g : Gb} {K : Frag} {mg : Str -> Option Value} {F : Hp} : ∀ {vs : List V} {ds : List PyData}, DatVs K F vs ds -> AFs g K mg F (ds.map .d) vs
 | _, _, .nil => trivial
 | _, _, .cons h r => ⟨h, AFs.data r⟩
theorem AFs.append {g : Gb} {K : Frag} {mg : Str -> Option Value} {F : Hp} : ∀ {as bs : List A} {vs us : List V}, AFs g K mg F as vs -> AFs g K mg F bs us -> AFs g K mg F (as ++ bs) (vs ++ us)
 | [], _, [], _, _, h => h
 | a :: as, bs, v :: vs, us, h, h2 => ⟨h.1, AFs.append h.2 h2⟩
section
variable {P : Program} {w : World} {K : Frag} {mg : Str -> Option Value} {base : Heap} {T : Hp} {S : ClSt} {N ps fr : List Str} {k : Nat}
theorem v9 {F0 F1 F H : Hp} {caps : List A} {cvs vs : List V} {ds : List PyData} {cl : List (Str × Addr)} (hT0 : aR T F0) (hcap : AFs (gOf P w K mg base T) K mg F0 caps cvs) (h01 : aR F0 F1) (h1F : aR F1 F) (hFH : aR F H) (C : CapAt F1 fr cl cvs) (hno : ∀ c ∈ aY fr cl, F0 c = none) (hd : DatVs K F vs ds) :
  Celd (aY fr cl) F /\ aR T (hid (aY fr cl) F) /\ aR (hid (aY fr cl) F) (hid (aY fr cl) H) /\ AFs (gOf P w K mg base T) K mg (hid (aY fr cl) F) (ds.map .d ++ caps) (vs ++ cvs) := by
 have hc : Celd (aY fr cl) F := (C.same h1F).celd
 have h0 : aR F0 (hid (aY fr cl) F) := fun b o q => by
  rw [bW fun z => by rw [hno b z] at q; cases q]; exact h1F b o (h01 b o q)
 refine ⟨hc, fun b o q => h0 b o (hT0 b o q), fun b o q => ?_, (AFs.data (lZ hc hd)).append (hcap.same h0)⟩
 obtain ⟨q1, hb⟩ := n6 q
 rw [bW hb]; exact hFH b o q1
def jR (n : Nat) (fb : Sg -> R Fw) : List A -> List PyData -> R PyData := fun caps ds => dOf (fnF n fb (ds.map .d ++ caps))
theorem aAU {F H : Hp} {cs : List Addr} {Q : VK} {E : XK} {r : R A} (hFH : aR F H) (hc : Celd cs F) (h : match dOf r with
 | .bad => False
 | .ok d => ∀ v F' H', Ext F H F' H' -> DatV K F' v d -> Q v H'
 | .ex e => ∀ a C F' H', Ext F H F' H' -> kA K mg F' e a C -> E (.ref C) (some a) H') : match (generalizing := false) r with
 | .bad => False
 | .ok a => ∀ v F' H', Ext (hid cs F) (hid cs H) F' H' -> AF (gOf P w K mg base T) K mg F' a v -> (∀ a ∈ cs, H' a = none) -> Q v (shw cs H H')
 | .ex e => ∀ a C F' H', Ext (hid cs F) (hid cs H) F' H' -> kA K mg F' e a C -> (∀ a ∈ cs, H' a = none) -> E (.ref C) (some a) (shw cs H H') := by
 cases r with
 | bad => exact h
 | ok a =>
  cases a with
  | d x =>
   intro v F' H' e q hn
   obtain ⟨e2, sm⟩ := aAT hFH hc hn e
   exact h v _ _ e2 (DatV.same sm q)
  | l xs => exact False.elim h
  | m xs => exact False.elim h
  | x e => exact False.elim h
  | g k n f => exact False.elim h
  | k S => exact False.elim h
 | ex x =>
  intro a C F' H' e q hn
  obtain ⟨e2, sm⟩ := aAT hFH hc hn e
  exact h a C _ _ e2 (q.same sm)
theorem aLG {body : List Stmt} {fb : Sg -> R Fw} (hb : S.body = .stmts body) (Sc : CloScope N ps fr S.scope) (hbi : ∀ (cl : List (Str × Addr)) (doc pm : Value) (cc : Addr) (ct : Value) (us : List Value), us.length = ps.length -> bindArgs (S.fd cl doc pm cc ct) ⟨us, []⟩ = pure (ps.zip us))
  (hbody : ∀ (f cc : Addr) (cl : List (Str × Addr)) (A : Around) (outer : List Env) (s : Shared) (H F : Hp) (E E' : XK), Room k (A.deeper (cP S.qual S.scope s.heap.objs.size f (.ref cc) cl)) ->
   kT ((iJ (CXe P w) P w K mg base N fr S.qual S.scope f (.ref cc) cl A outer s H E').fly E) ⟨K, mg, w, F, hid (aY fr cl) H, gOf P w K mg base T, (cP S.qual S.scope s.heap.objs.size f (.ref cc) cl).cells, fun _ => none⟩ E body fb) :
  CloOk P w K mg base T S fr (k + 1) ps.length (jR N.length fb) := by
 intro F0 F1 caps cvs f cl doc pm ct cc hT0 hcap h01 hf hcc C hno
 refine ⟨S.fd cl doc pm cc ct, ps, rfl, .all (hbi cl doc pm cc ct), ⟨fun vs H Q E h => ?_, fun A outer s H args us vs Q E hr e0 hbn rv hsp => ?_⟩, .inr ⟨_, _, _, _, hf⟩⟩
 ·obtain ⟨F, ds, _, _, _, h1, h2, _⟩ := h
  rw [h1.length, h2]
 ·obtain ⟨F, ds, h1, h2, h3, h4, h5, h6⟩ := hsp
  obtain ⟨hc, a1, a2, a3⟩ := v9 hT0 hcap h01 h1 h3 C hno h4
  refine aDK hb (h3 _ _ (h1 _ _ hf)) (h3 _ _ (h1 _ _ hcc)) Sc (C.same fun b o z => h3 b o (h1 b o z)) hr e0 hbn rv (by rw [h4.length, h5]) fun hr' => ⟨_, hbody f cc cl A outer s H (hid (aY fr cl) F) _ E hr', ?_⟩
  have h7 := aAU (P := P) (w := w) (base := base) (T := T) (r := fnF N.length fb (ds.map .d ++ caps)) h3 hc h6
  refine qJ (n := N.length) (fb := fb) (Q := fun v H' => (∀ a ∈ aY fr cl, H' a = none) -> Q v (shw (aY fr cl) H H')) (E := fun c e H' => (∀ a ∈ aY fr cl, H' a = none) -> E c e (shw (aY fr cl) H H')) a1 a2 a3 ?_
  cases e : fnF N.length fb (ds.map .d ++ caps) with
  | bad => rw [e] at h7; exact h7
  | ok a => rw [e] at h7; exact h7
  | ex x => rw [e] at h7; exact h7
theorem aLH {body : Expr} {fe : Sg -> R PyData} (hb : S.body = .expr body) (Sc : CloScope N ps fr S.scope) (hbi : ∀ (cl : List (Str × Addr)) (doc pm : Value) (cc : Addr) (ct : Value) (us : List Value), us.length = ps.length -> bindArgs (S.fd cl doc pm cc ct) ⟨us, []⟩ = pure (ps.zip us))
  (hbody : ∀ (f cc : Addr) (cl : List (Str × Addr)) (A : Around) (outer : List Env) (s : Shared) (H F : Hp) (E E' : XK), Room k (A.deeper (cP S.qual S.scope s.heap.objs.size f (.ref cc) cl)) ->
   PD ((iJ (CXe P w) P w K mg base N fr S.qual S.scope f (.ref cc) cl A outer s H E').fly E) ⟨K, mg, w, F, hid (aY fr cl) H, gOf P w K mg base T, (cP S.qual S.scope s.heap.objs.size f (.ref cc) cl).cells, fun _ => none⟩ E body fe) :
  CloOk P w K mg base T S fr (k + 1) ps.length (jR N.length (bS (vD fe))) := by
 intro F0 F1 caps cvs f cl doc pm ct cc hT0 hcap h01 hf hcc C hno
 refine ⟨S.fd cl doc pm cc ct, ps, rfl, .all (hbi cl doc pm cc ct), ⟨fun vs H Q E h => ?_, fun A outer s H args us vs Q E hr e0 hbn rv hsp => ?_⟩, .inr ⟨_, _, _, _, hf⟩⟩
 ·obtain ⟨F, ds, _, _, _, h1, h2, _⟩ := h
  rw [h1.length, h2]
 ·obtain ⟨F, ds, h1, h2, h3, h4, h5, h6⟩ := hsp
  obtain ⟨hc, a1, a2, a3⟩ := v9 hT0 hcap h01 h1 h3 C hno h4
  refine aFB hb (h3 _ _ (h1 _ _ hf)) (h3 _ _ (h1 _ _ hcc)) Sc (C.same fun b o z => h3 b o (h1 b o z)) hr e0 hbn rv (by rw [h4.length, h5]) fun hr' => ⟨_, hbody f cc cl A outer s H (hid (aY fr cl) F) _ E hr', ?_⟩
  have h7 := aAU (P := P) (w := w) (base := base) (T := T) (r := fnF N.length (bS (vD fe)) (ds.map .d ++ caps)) h3 hc h6
  refine ⟨_, _, yA a1 a2 a3, ?_⟩
  unfold fnF bS vD at h7
  cases e : fe ((ds.map Fl.A.d ++ caps).map some ++ List.replicate (N.length - (ds.map Fl.A.d ++ caps).length) none) with
  | bad => rw [e] at h7; exact h7
  | ok d => rw [e] at h7; exact fun v F' H' e1 r1 hn => h7 v F' H' e1 r1 hn
  | ex x => rw [e] at h7; exact fun a C F' H' e1 r1 hn => h7 a C F' H' e1 r1 hn
end
end Fl
namespace Fl
open PySem L2 PyProof.Rows
def oO (c : Ct) (F : Hp) (S : ClSt) (v : V) : Prop := ∃ f cl doc pm cc ct, v = .ref f /\ F f = some (FnO f (S.obj cl doc pm cc ct)) /\ F cc = some (.cod S.qual) /\ ClOf c.cells S.scope cl
theorem oO.same {c : Ct} {F F' : Hp} {S : ClSt} {v : V} (s : aR F F') : oO c F S v -> oO c F' S v := by
 rintro ⟨f, cl, doc, pm, cc, ct, h1, h2, h3, h4⟩
 exact ⟨f, cl, doc, pm, cc, ct, h1, s _ _ h2, s _ _ h3, h4⟩
theorem aAV {c : Ct} {S : ClSt} {P0 : Addr} {qs : List (Pos × Str)} {cells : List (Str × Addr)} {ρ : Sg} {σ : L2.St} {F H : Hp} {Q : VK} (hcl : cells = c.cells) (hT : c.g.T P0 = some (.tbl qs)) (ab : Ab c ρ σ F H) (h : ∀ v F' H', Ext F H F' H' -> oO c F' S v -> Q v H') : tMk cells S P0 qs σ H Q := by
 subst hcl
 refine ⟨ab.fh _ _ (ab.f0 _ _ (ab.t0 _ _ hT)), fun f cc cl doc pm ct H1 hm hn hco => ?_⟩
 have e1 : ∃ F1, Ext F H F1 H1 /\ F1 cc = some (.cod S.qual) := by
  rcases hm with ⟨q, rfl⟩ | ⟨q, rfl⟩
  ·refine ⟨upd F cc (.cod S.qual), ⟨cN _, fun a o z => ?_, fun a o z => ?_, fun a z n => ?_⟩, aW⟩
   ·by_cases w : a = cc
    ·subst w
     have := ab.fh a o z
     rw [q] at this; cases this
     exact aW
    ·rw [aG w]; exact z
   ·by_cases w : a = cc
    ·subst w; rw [aW] at z; rw [q]; exact z
    ·rw [aG w] at z; exact ab.fh a o z
   ·by_cases w : a = cc
    ·subst w; exact .inr ⟨_, q⟩
    ·rw [aG w] at n; exact absurd z n
  ·exact ⟨upd F cc (.cod S.qual), Ext.new ab.fh q, aW⟩
 obtain ⟨F1, e1, hc1⟩ := e1
 have e2 : Ext F1 H1 (upd F1 f (FnO f (S.obj cl doc pm cc ct))) (upd H1 f (FnO f (S.obj cl doc pm cc ct))) := Ext.new e1.fh hn
 exact h (.ref f) _ _ (e1.trans e2) ⟨f, cl, doc, pm, cc, ct, rfl, aW, e2.ff _ _ hc1, hco⟩
noncomputable def aB6 (i : Nat) (q : Str) : Sg -> R Fw := fun ρ => .ok (.nx (ρ.set i (some (.k q))))
theorem aIP {X : Cx} {c : Ct} {E : XK} {st : Stmt} {i : Nat} {q : Str} {S : ClSt} {P0 : Addr} {qs : List (Pos × Str)} {cells : List (Str × Addr)} (hcl : cells = c.cells) (hS : c.cls q = some S) (hT : c.g.T P0 = some (.tbl qs)) (h : PS X st (kS (tMk cells S P0 qs) (jL i))) : PSf X c E st (aB6 i q) := PS.imp h fun D σ H zz0 => by
 obtain ⟨ρ, F, ab, k⟩ := zz0
 refine aAV hcl hT ab fun v F' H' e hc => ?_
 exact Rk.ok k _ F' H' e.ff ((ab.ext e).setF (a := .k q) (let ⟨f, cl, doc, pm, cc, ct, h⟩ := hc; ⟨S, f, cl, doc, pm, cc, ct, hS, h⟩) fun z => nomatch z)
noncomputable def wW : Option (Option A) -> Option A
 | some (some (.d x)) => some (.d x)
 | some (some (.x e)) => some (.x e)
 | some (some (.g k n G)) => some (.g k n G)
 | _ => none
noncomputable def hZ : List Nat -> Sg -> Option (List A)
 | [], _ => some []
 | j :: js, ρ => match wW ρ[j]?, hZ js ρ with
  | some a, some as => some (a :: as)
  | _, _ => none
theorem tP {o : Option (Option A)} {a : A} (h : wW o = some a) : o = some (some a) /\ ∀ {c : Ct} {F H : Hp} {v : V}, AO c F H a v -> AF c.g c.K c.mg F a v := by
 unfold wW at h
 split at h <;> cases h
 · exact ⟨rfl, fun z => z⟩
 · exact ⟨rfl, fun z => z⟩
 · exact ⟨rfl, fun z => z⟩
theorem aAW {c : Ct} {ρ : Sg} {σ : L2.St} {F H : Hp} (ab : Ab c ρ σ F H) : ∀ {js : List Nat} {caps : List A}, hZ js ρ = some caps -> ∃ cvs, AFs c.g c.K c.mg F caps cvs /\ cvs.length = js.length /\ ∀ (i : Nat) j, js[i]? = some j -> ∃ v, cvs[i]? = some v /\ σ[j]? = some (some v)
 | [], _, h => by cases h; exact ⟨[], trivial, rfl, fun i j z => by simp at z⟩
 | j :: js, caps, h => by
  unfold hZ at h
  split at h
  ·rename_i a as h1 h2
   cases h
   obtain ⟨cvs, r, l, g⟩ := aAW ab h2
   obtain ⟨q1, q2⟩ := tP h1
   obtain ⟨v, hv, hA⟩ := ab.slot j a q1
   refine ⟨v :: cvs, ⟨q2 hA, r⟩, by simp [l], fun i j' e => ?_⟩
   cases i with
   | zero => simp at e; subst e; exact ⟨v, rfl, hv⟩
   | succ i => obtain ⟨v', a1, a2⟩ := g i j' (by simpa using e); exact ⟨v', by simpa using a1, a2⟩
  ·cases h
def yO (X : Cx) (T : Hp) (c : Ct) (js : List Nat) (ρ : Sg) (F : Hp) (a : A) (v : V) : Prop := AF c.g c.K c.mg F a v \/
 ∃ S fr sl k n Gm caps, a = .g k n (Gm caps) /\ oO c F S v /\ CloOk X.prog X.w X.K X.mg X.base T S fr k n Gm /\ (∀ y, (y, NameKind.free) ∈ S.scope.names -> y ∈ fr) /\ (∀ y ∈ fr, (y, NameKind.free) ∈ S.scope.names) /\ sl.map (fun j => X.N[j]?) = fr.map some /\ (∀ j ∈ sl, j ∈ js) /\ hZ sl ρ = some caps
theorem yO.same {X : Cx} {T : Hp} {c : Ct} {js : List Nat} {ρ : Sg} {F F' : Hp} {a : A} {v : V} (s : aR F F') (h : yO X T c js ρ F a v) : yO X T c js ρ F' a v := by
 rcases h with h | ⟨S, fr, sl, k, n, Gm, caps, h1, h2, h3⟩
 · exact .inl (AF.same s h)
 · exact .inr ⟨S, fr, sl, k, n, Gm, caps, h1, h2.same s, h3⟩
def aB7 (X : Cx) (T : Hp) (c : Ct) (js : List Nat) (ρ : Sg) (F : Hp) : List A -> List V -> Prop
 | [], [] => True
 | a :: as, v :: vs => yO X T c js ρ F a v /\ aB7 X T c js ρ F as vs
 | _, _ => False
def tK1 (X : Cx) (T : Hp) (c : Ct) (js : List Nat) (E : XK) (f : Sg -> R A) : TE := fun σ H Q => ∃ ρ F, Ab c ρ σ F H /\ Rk c E F H (f ρ) fun a => ∀ v F' H', Ext F H F' H' -> yO X T c js ρ F' a v -> Q v H'
def tKs (X : Cx) (T : Hp) (c : Ct) (js : List Nat) (E : XK) (f : Sg -> R (List A)) : TA := fun σ H Q => ∃ ρ F, Ab c ρ σ F H /\ Rk c E F H (f ρ) fun as => ∀ vs F' H', Ext F H F' H' -> aB7 X T c js ρ F' as vs -> Q vs H'
section
variable {X : Cx} {T : Hp} {c : Ct} {js : List Nat} {E : XK} {e : Expr} {es : List Expr}
theorem aM9 {f : Sg -> R A} (h : PV X c E e f) : PE X e (tK1 X T c js E f) := PE.imp h fun σ H Q ⟨ρ, F, ab, k⟩ => ⟨ρ, F, ab, k.imp fun a _ q v F' H' e1 r => q v F' H' e1 (.inl r)⟩
def wX (q : Str) (sl : List Nat) (k n : Nat) (Gm : List A -> List PyData -> R PyData) (i : Nat) : Sg -> R A := fun ρ => match ρ[i]?, hZ sl ρ with
 | some (some (.k q')), some caps => if q' = q then .ok (.g k n (Gm caps)) else .bad
 | _, _ => .bad
theorem aIQ {q : Str} {S : ClSt} {fr : List Str} {sl : List Nat} {k n i : Nat} {Gm : List A -> List PyData -> R PyData} (hS : c.cls q = some S) (M : CloOk X.prog X.w X.K X.mg X.base T S fr k n Gm) (h1 : ∀ y, (y, NameKind.free) ∈ S.scope.names -> y ∈ fr) (h2 : ∀ y ∈ fr, (y, NameKind.free) ∈ S.scope.names)
  (h3 : sl.map (fun j => X.N[j]?) = fr.map some) (h4 : ∀ j ∈ sl, j ∈ js) (h : PE X e (j3 i)) : PE X e (tK1 X T c js E (wX q sl k n Gm i)) := PE.imp h fun σ H Q zz0 => by
 obtain ⟨ρ, F, ab, k⟩ := zz0
 unfold wX at k
 split at k
 ·rename_i q' caps hi hc
  by_cases hq : q' = q
  ·rw [if_pos hq] at k
   subst hq
   obtain ⟨v, hv, S', f, cl, doc, pm, cc, ct, h0, hA⟩ := ab.slot i _ hi
   rw [hS] at h0; cases h0
   have hA : oO c F S v := ⟨f, cl, doc, pm, cc, ct, hA⟩
   exact ⟨v, hv, Rk.ok k v F H (Ext.refl ab.fh) (.inr ⟨_, fr, sl, _, _, Gm, caps, rfl, hA, M, h1, h2, h3, h4, hc⟩)⟩
  ·rw [if_neg hq] at k; exact k.elim
 ·exact k.elim
def aB8 (sl : List Nat) (k n : Nat) (Gm : List A -> List PyData -> R PyData) : Sg -> R A := fun ρ => match hZ sl ρ with
 | some caps => .ok (.g k n (Gm caps))
 | none => .bad
theorem aLI {S : ClSt} {fr : List Str} {sl : List Nat} {k n : Nat} {Gm : List A -> List PyData -> R PyData} {P0 : Addr} {qs : List (Pos × Str)} {cells : List (Str × Addr)} (hcl : cells = c.cells) (hT : c.g.T P0 = some (.tbl qs)) (M : CloOk X.prog X.w X.K X.mg X.base T S fr k n Gm) (h1 : ∀ y, (y, NameKind.free) ∈ S.scope.names -> y ∈ fr) (h2 : ∀ y ∈ fr, (y, NameKind.free) ∈ S.scope.names)
  (h3 : sl.map (fun j => X.N[j]?) = fr.map some) (h4 : ∀ j ∈ sl, j ∈ js) (h : PE X e (tMk cells S P0 qs)) : PE X e (tK1 X T c js E (aB8 sl k n Gm)) := PE.imp h fun σ H Q zz0 => by
 obtain ⟨ρ, F, ab, k⟩ := zz0
 unfold aB8 at k
 split at k
 ·rename_i caps hc
  exact aAV hcl hT ab fun v F' H' e1 hA => Rk.ok k v F' H' e1 (.inr ⟨_, fr, sl, _, _, Gm, caps, rfl, hA, M, h1, h2, h3, h4, hc⟩)
 ·exact k.elim
theorem aIR : PA X [] (tKs X T c js E aL) := PA.imp aQ fun σ H Q ⟨ρ, F, ab, k⟩ => Rk.ok k [] F H (Ext.refl ab.fh) trivial
end
end Fl
namespace Fl
open PySem L2 PyProof.Rows
section
variable {X : Cx} {T : Hp} {c : Ct} {js : List Nat} {E : XK} {e : Expr} {es : List Expr}
theorem rY {f : Sg -> R A} {g : Sg -> R (List A)} (h : PE X e (tK1 X T c js E f)) (h2 : PA X es (tKs X T c js E g)) (hs : starEach (e :: es) X.env = (false, eval e X.env) :: starEach es X.env := by rfl) : PA X (e :: es) (tKs X T c js E (aB f g)) := PA.imp (aK h h2 hs) fun σ H Q zz0 => by
 obtain ⟨ρ, F, ab, k⟩ := zz0
 refine ⟨ρ, F, ab, (Rk.bind k).imp fun x _ q v F1 H1 s1 r1 => ⟨ρ, F1, ab.ext s1, ((Rk.bind q).ext s1).imp fun xs _ q vs F2 H2 s2 r2 => ?_⟩⟩
 exact Rk.ok q (v :: vs) F2 H2 (s1.trans s2) ⟨r1.same s2.ff, r2⟩
theorem yP : ∀ {js : List Nat} {ρ : Sg} {caps : List A}, hZ js ρ = some caps -> ∀ j ∈ js, ∃ a, ρ[j]? = some (some a)
 | [], _, _, _, j, hj => by simp at hj
 | i :: js, ρ, caps, h, j, hj => by
  unfold hZ at h
  split at h
  ·rename_i a as h1 h2
   rcases List.mem_cons.mp hj with z | z
   · subst z; exact ⟨a, (tP h1).1⟩
   · exact yP h2 j z
  ·cases h
theorem aIS {α : Type} {N : List α} {sl : List Nat} {fr : List α} (h : sl.map (fun j => N[j]?) = fr.map some) : sl.length = fr.length /\ ∀ (i : Nat) x, fr[i]? = some x -> ∃ j, sl[i]? = some j /\ N[j]? = some x := by
 have hl : sl.length = fr.length := by have := congrArg List.length h; simpa using this
 refine ⟨hl, fun i x e => ?_⟩
 have hi : i < fr.length := (List.getElem?_eq_some_iff.mp e).1
 have h2 : (sl.map (fun j => N[j]?))[i]? = (fr.map some)[i]? := by rw [h]
 rw [List.getElem?_map, List.getElem?_map, e, List.getElem?_eq_getElem (by omega)] at h2
 exact ⟨sl[i], List.getElem?_eq_getElem _, Option.some.inj h2⟩
theorem aFX {S : ClSt} {fr : List Str} {sl : List Nat} {k n : Nat} {Gm : List A -> List PyData -> R PyData} {caps : List A} {ρ : Sg} {σ : L2.St} {F H : Hp} {cv : Cv} {v : V} (hG : c.g = gOf X.prog X.w X.K X.mg X.base T) (hK : X.K = c.K) (hM : X.mg = c.mg) (hcl : X.env.cells = c.cells) (ab : Ab c ρ σ F H) (R : PubRel X σ H js cv)
  (hA : oO c F S v) (M : CloOk X.prog X.w X.K X.mg X.base T S fr k n Gm) (h1 : ∀ y, (y, NameKind.free) ∈ S.scope.names -> y ∈ fr) (h2 : ∀ y ∈ fr, (y, NameKind.free) ∈ S.scope.names)
  (h3 : sl.map (fun j => X.N[j]?) = fr.map some) (h4 : ∀ j ∈ sl, j ∈ js) (hc : hZ sl ρ = some caps) : AF c.g c.K c.mg (pub cv F) (.g k n (Gm caps)) v := by
 obtain ⟨f, cl, doc, pm, cc, ct, rfl, q1, q2, q3⟩ := hA
 obtain ⟨cvs, r, l, gt⟩ := aAW ab hc
 obtain ⟨l3, g3⟩ := aIS h3
 have hdF : ∀ b ∈ dA cv, F b = none := fun b hb => cB ab.fh (R.free b hb)
 have hs : aR F (pub cv F) := j9 hdF
 have key : ∀ (i : Nat) x v, fr[i]? = some x -> cvs[i]? = some v -> ∃ a o, cl.lookup x = some a /\ cv.lookup a = some (o, v) := fun i x v e1 e2 => by
  obtain ⟨j, e3, e4⟩ := g3 i x e1
  obtain ⟨v', e5, e6⟩ := gt i j e3
  rw [e2] at e5; cases e5
  obtain ⟨x', a, o, v2, e7, e8, e9, e10⟩ := R.all j (h4 j (List.mem_of_getElem? e3))
  rw [e4] at e7; cases e7
  rw [e6] at e9; cases e9
  obtain ⟨a', e11⟩ := q3.all (x, .free) (h2 x (List.mem_of_getElem? e1)) rfl
  have e12 := q3.of _ _ e11
  rw [<- hcl] at e12
  have e12' : X.env.cells.lookup x = some a' := e12
  rw [e8] at e12'; cases e12'
  exact ⟨a, o, e11, e10⟩
 refine ⟨f, pub cv F, rfl, cN _, ?_⟩
 rw [hG]
 refine M F (pub cv F) caps cvs f cl doc pm ct cc (fun a o z => ab.f0 a o (ab.t0 a o (by rw [hG]; exact z))) (by rw [hK, hM, <- hK, <- hM]; rw [hG] at r; rw [<- hK, <- hM] at r; exact r) hs (hs _ _ q1) (hs _ _ q2) ⟨l.trans l3, fun n c e => h1 n (q3.only n c e), fun n n' c e e' => R.inj n n' c (by rw [hcl]; exact q3.of _ _ e) (by rw [hcl]; exact q3.of _ _ e'), fun i x v e1 e2 => ?_⟩ fun a ha => ?_
 ·obtain ⟨a, o, e3, e4⟩ := key i x v e1 e2
  exact ⟨a, o, e3, o8 e4⟩
 ·obtain ⟨x, hx, e⟩ := List.mem_filterMap.mp ha
  obtain ⟨i, hi, hxi⟩ := List.mem_iff_getElem.mp hx
  obtain ⟨a', o, e3, e4⟩ := key i x (cvs[i]'(by rw [l, l3]; exact hi)) (by rw [List.getElem?_eq_getElem hi, hxi]) (List.getElem?_eq_getElem _)
  rw [e] at e3; cases e3
  exact hdF a (gX.mpr ⟨_, e4⟩)
theorem wA {ρ : Sg} {σ : L2.St} {F H : Hp} {cv : Cv} (hG : c.g = gOf X.prog X.w X.K X.mg X.base T) (hK : X.K = c.K) (hM : X.mg = c.mg) (hcl : X.env.cells = c.cells) (ab : Ab c ρ σ F H) (R : PubRel X σ H js cv) : ∀ {as : List A} {vs : List V}, aB7 X T c js ρ F as vs -> AFs c.g c.K c.mg (pub cv F) as vs
 | [], [], _ => trivial
 | a :: as, v :: vs, h => by
  refine ⟨?_, wA hG hK hM hcl ab R h.2⟩
  rcases h.1 with q | ⟨S, fr, sl, k, n, Gm, caps, rfl, q1, q2, q3, q4, q5, q6, q7⟩
  · exact AF.same (j9 fun b hb => cB ab.fh (R.free b hb)) q
  · exact aFX hG hK hM hcl ab R q1 q2 q3 q4 q5 q6 q7
def tQ (js : List Nat) (n : Nat) (G : List A -> R A) (f : Sg -> R (List A)) : Sg -> R A := fun ρ => match hZ js ρ with
 | some _ => (f ρ).bind fun as => if as.length = n then (dOf (G as)).bind fun x => .ok (.d x) else .bad
 | none => .bad
theorem aLJ {n : Nat} {G : List A -> R A} {g : Gb} {K : Frag} {mg : Str -> Option Value} {f : Sg -> R (List A)} (hG : c.g = gOf X.prog X.w X.K X.mg X.base T) (hK : X.K = c.K) (hM : X.mg = c.mg) (hcl : X.env.cells = c.cells) (hg : g = c.g) (hk : K = c.K) (hm : mg = c.mg)
  (hcs : ∀ j ∈ js, ∃ x, X.N[j]? = some x /\ X.env.kindOf x = some .cell /\ X.fn x = true) (h : PE X e (aDO X js (spF g K mg n G) E (tKs X T c js E f))) : PV X c E e (tQ js n G f) := PE.imp h fun σ H Q zz0 => by
 obtain ⟨ρ, F, ab, k⟩ := zz0
 subst hg hk hm
 unfold tQ at k
 split at k
 ·rename_i caps hc
  refine ⟨ρ, F, ab, (Rk.bind k).imp fun as _ q vs F1 H1 e1 r1 => ⟨fun j hj => ?_, fun cv R => ?_⟩⟩
  ·obtain ⟨x, a1, a2, a3⟩ := hcs j hj
   obtain ⟨a, ha⟩ := yP hc j hj
   obtain ⟨v, hv, _⟩ := ab.slot j a ha
   exact ⟨x, v, a1, a2, a3, hv⟩
  ·by_cases hn : as.length = n
   ·rw [if_pos hn] at q
    have ab1 := ab.ext e1
    have hdF : ∀ b ∈ dA cv, F1 b = none := fun b hb => cB e1.fh (R.free b hb)
    refine ⟨pub cv F1, as, fun a o z => j9 hdF a o (e1.ff a o (ab.f0 a o (ab.t0 a o z))), aFW e1.fh, wA hG hK hM hcl ab1 R r1, hn, ?_⟩
    cases hgg : G as with
    | bad => rw [hgg] at q; exact q
    | ok a =>
     rw [hgg] at q
     cases a with
     | d x =>
      intro v F2 H2 e2 r2
      exact Rk.ok q v _ _ (e1.trans (v8 R.free e1.fh e2)) (aAS (yN e2.ff) r2)
     | l xs => exact False.elim q
     | m xs => exact False.elim q
     | x xs => exact False.elim q
     | g k n f => exact False.elim q
     | k S => exact False.elim q
    | ex x =>
     rw [hgg] at q
     intro a C F2 H2 e2 r2
     obtain ⟨q1, q2⟩ := aFV (yN e2.ff) r2
     exact ⟨q a C _ _ ((ab.all.trans e1).trans (v8 R.free e1.fh e2)) q1, fun b hb => by cases hb; exact q2⟩
   ·rw [if_neg hn] at q; exact q.elim
 ·exact k.elim
end
section
variable {P : Program} {w : World} {K : Frag} {mg : Str -> Option Value} {base : Heap} {T : Hp}
structure DefAtT (K : Frag) (mg : Str -> Option Value) (base : Heap) (T : Hp) (qs : List (Pos × Str)) (x : Str) (st : Stmt) (ps : List Str) : Prop where
 ex : ∃ f oc od kV doc pm an c0 ct osl P0, K.lookup f = some ⟨oc, od, .func (PySem.W.fnOf x x (fU st) (c8 st) (aO st) .none kV doc pm an (.ref c0) ct), osl⟩ /\ PySem.W.codeIn K (.ref c0) x = true /\ PySem.W.keepIn K (.ref f) = true /\
  gN K (PySem.W.fnOf x x (fU st) (c8 st) (aO st) .none kV doc pm an (.ref c0) ct) ps [] /\ mg x = some (.ref f) /\ Tb mg base c0 P0 /\ T P0 = some (.tbl qs)
theorem aOI {h : Heap} {qs : List (Pos × Str)} {xs : List Str} {x : Str} {st : Stmt} {ps : List Str} (D : DefAt K mg x st ps) (KX : K.In h) (TL : xR mg h base T qs xs) (hx : x ∈ xs) : DefAtT K mg base T qs x st ps := by
 obtain ⟨f, fd, F, b, m⟩ := D.ex
 obtain ⟨oc, od, kV, doc, pm, an, cdv, ct, osl, rfl, lk, hcd⟩ := F.ex
 obtain ⟨c0, P0, t1, t2, t3⟩ := TL x hx
 have e : cdv = .ref c0 := t3 f _ _ m (KX _ _ lk) rfl
 subst e
 exact ⟨f, oc, od, kV, doc, pm, an, c0, ct, osl, P0, lk, hcd, F.kp, b, m, t2, t1⟩
theorem aIT {x : Str} {st : Stmt} {N ps : List Str} {k : Nat} {qs : List (Pos × Str)} {cls : Str -> Option ClSt} {fb : Sg -> R Fw} (D : DefAtT K mg base T qs x st ps) (S : FnScope N ps (aO st))
  (hbody : ∀ (f c0 P0 : Addr) (A : Around) (outer : List Env) (s : Shared) (H F : Hp) (E : XK), Tb mg base c0 P0 -> T P0 = some (.tbl qs) -> Room k (A.deeper (envOfC x (aO st) s.heap.objs.size f (.ref c0))) ->
   kT ((jM (CXe P w) P w K mg base N x (aO st) f (.ref c0) A outer s H E).fly E) ⟨K, mg, w, F, H, gOf P w K mg base T, (envOfC x (aO st) s.heap.objs.size f (.ref c0)).cells, cls⟩ E (c8 st) fb) : aX P w K mg base T (k + 1) x ps (fnF N.length fb) := by
 obtain ⟨f, oc, od, kV, doc, pm, an, c0, ct, osl, P0, lk, hcd, kp, b, m, t2, t1⟩ := D.ex
 refine ⟨f, _, aBH lk hcd S (fun vs H Q E h => ?_) (fun A outer s H vs Q E hr h => ?_), b, m, kp⟩
 ·obtain ⟨F, as, _, _, h2, h3, _⟩ := h
  rw [h2.len, h3]
 ·obtain ⟨F, as, h0, h1, h2, h3, h4⟩ := h
  exact ⟨_, (hbody f c0 P0 A outer s H F E t2 t1 hr).unfly fun _ _ z => vT z, qJ h0 h1 h2 h4⟩
end
end Fl
namespace Fl
open PySem L2 PyProof.Rows
noncomputable def aLK : Stmt -> Expr
 | .Assign _ e _ => e
 | .Return (some e) _ => e
 | _ => .Constant .none 0 ⟨0, 0, 0, 0⟩
noncomputable def aLL (e : Expr) (i : Nat) : Expr := match e with
 | .Call _ as _ _ => as.getD i (.Constant .none 0 ⟨0, 0, 0, 0⟩)
 | e => e
noncomputable def clS (q : Str) : Stmt -> ClSt
 | .FunctionDef x a b _ _ _ sc _ _ _ => ⟨x, q, a, .stmts b, sc⟩
 | s => ⟨"", q, fU s, .stmts [], aO s⟩
noncomputable def clE (q : Str) : Expr -> ClSt
 | .Lambda a b sc _ => ⟨"<lambda>", q, a, .expr b, sc⟩
 | _ => ⟨"", q, fU (.Pass ⟨0, 0, 0, 0⟩), .stmts [], aO (.Pass ⟨0, 0, 0, 0⟩)⟩
noncomputable def aOJ : Stmt -> Pos
 | .FunctionDef _ _ _ _ _ _ _ _ _ p => p
 | _ => ⟨0, 0, 0, 0⟩
noncomputable def aOK : Expr -> Pos
 | .Lambda _ _ _ p => p
 | _ => ⟨0, 0, 0, 0⟩
theorem aLM {X : Cx} : ∀ j ∈ ([] : List Nat), ∃ x, X.N[j]? = some x /\ X.env.kindOf x = some .cell /\ X.fn x = true := fun j h => by simp at h
theorem aIU {X : Cx} {i : Nat} {js : List Nat} (h : ∃ x, X.N[i]? = some x /\ X.env.kindOf x = some .cell /\ X.fn x = true) (t : ∀ j ∈ js, ∃ x, X.N[j]? = some x /\ X.env.kindOf x = some .cell /\ X.fn x = true) : ∀ j ∈ i :: js, ∃ x, X.N[j]? = some x /\ X.env.kindOf x = some .cell /\ X.fn x = true := fun j hj => by
 rcases List.mem_cons.mp hj with z | z
 · subst z; exact h
 · exact t j z
end Fl
namespace Zp
open PySem
structure Apart (z TI TO i1 i2 : Addr) (f1 f2 : List Addr) : Prop where
 TIz : TI ≠ z
 TOz : TO ≠ z
 i1z : i1 ≠ z
 i2z : i2 ≠ z
 TITO : TI ≠ TO
 TIi1 : TI ≠ i1
 TIi2 : TI ≠ i2
 TOi1 : TO ≠ i1
 TOi2 : TO ≠ i2
 i12 : i1 ≠ i2
 z1 : z ∉ f1
 z2 : z ∉ f2
 t1 : TO ∉ f1
 t2 : TO ∉ f2
 i1f2 : i1 ∉ f2
 i2f1 : i2 ∉ f1
noncomputable abbrev H2 (h : Heap) (o1 o2 : Obj) : Heap := (h.push o1).push o2
noncomputable abbrev H3 (h : Heap) (o1 o2 : Obj) : Heap := (H2 h o1 o2).push { cls := .type "tuple", data := .seq #[.ref h.objs.size, .ref (h.push o1).objs.size] }
noncomputable abbrev H4 (h : Heap) (o1 o2 : Obj) : Heap := (H3 h o1 o2).push { cls := .type "tuple", data := .seq #[.none, .none] }
noncomputable abbrev H5 (h : Heap) (o1 o2 : Obj) : Heap := (H4 h o1 o2).push { cls := .type "zip", data := .fields #[.none, .bool false, .bool false, .ref (H2 h o1 o2).objs.size, .ref (H3 h o1 o2).objs.size] }
end Zp
namespace L2
open PySem PySem.Spec PyProof.Rows
abbrev Col := Hp -> List V -> Prop
structure ColOk (P : Program) (w : World) (K : Frag) (C : Col) (it : Addr) (tn : Nat -> Heap -> Prop) : Prop where
 obj : ∀ i h, tn i h -> ∃ o, h.get? it = some o /\ ∀ v, o.data ≠ .cell v
 keep : ∀ i h h', tn i h -> (∀ o, h.get? it = some o -> h'.get? it = some o) -> tn i h'
 one : ∀ (X : Cx), X.prog = P -> X.w = w -> X.K = K -> ∀ pins s σ H xs ys, Inv X pins σ H s -> C H xs -> C H ys -> xs = ys
 draw : ∀ (X : Cx), X.prog = P -> X.w = w -> X.K = K -> ∀ (i : Nat) (pins : List (Addr × Obj)) (s : Shared) (σ : St) (H : Hp) (xs : List V) (A : Around), Inv X pins σ H s -> j5 X pins H it -> tn i s.heap -> C H xs -> A.handled = none ->
  ∃ fp Pv St, Draws P w A it fp xs.length Pv St /\ St i s.heap /\ (∀ j h, St j h -> tn j h) /\ (∀ j v, Pv j v -> ∃ x, xs[j]? = some x /\ bC x v) /\ ∀ b, j5 X pins H b -> b ≠ it -> b ∉ fp
noncomputable def pL (z : Str) : List V := z.cps.toList.map fun c => V.str ⟨#[c]⟩
end L2
namespace L2
open PySem PySem.Spec PyProof.Rows
theorem zU {X : Cx} (hc : X.calm = true) : iX X (.type "list") (fun xs H Q => ∃ z : Str, xs = [.str z] /\ z.cps.toList.length <= 16777216 /\ ∀ l, H l = none -> Q (.ref l) (upd H l (.lst (pL z)))) := by
 intro pins s σ H xs us Q I r h
 obtain ⟨z, rfl, hn, q⟩ := h
 obtain ⟨u, rfl, t, rfl⟩ := p9 r
 have hz : z.cps.size <= sizeLine := by rw [<- Array.length_toList, Fl.dF]; exact hn
 refine call_list_str (hn := hz) (I.ok.hd hc) z t fun h' tk acc c kp e it => ?_
 have hl : (pL z).length = z.cps.toList.length := by unfold pL; rw [List.length_map]
 have hv : bN (pL z) acc.toList := by
  refine aAD (by rw [hl, Array.length_toList, Array.length_toList, it.1]) fun i x y h1 h2 => ?_
  obtain ⟨c', u', e1, rfl⟩ := it.2 i y (by rw [<- h2, Array.getElem?_toList])
  unfold pL at h1
  rw [List.getElem?_map, Array.getElem?_toList, e1] at h1
  cases h1
  exact ⟨u', rfl⟩
 refine ⟨.ref s.heap.objs.size, _, I.laid (t' := tk) (o := .lst (pL z)) kp (Nat.le_refl _) ⟨by rw [hl, Fl.dF]; exact hn, acc.toList, c, hv, by simpa using e⟩, rfl, q _ (I.hok.fresh (Nat.le_refl _))⟩
end L2
namespace Fl
open PySem L2 PyProof.Rows
noncomputable def dLS : PyData -> R (List PyData)
 | .str z => if z.cps.toList.length <= 16777216 then .ok (z.cps.toList.map fun u => .str ⟨#[u]⟩) else .bad
 | _ => .bad
section
variable {X : Cx} {c : Ct} {E : XK} {e : Expr}
theorem tR {K : Frag} {F : Hp} : ∀ (xs : List Nat), DatVs K F (xs.map fun u => V.str ⟨#[u]⟩) (xs.map fun u => PyData.str ⟨#[u]⟩)
 | [] => .nil
 | x :: xs => .cons (.str _) (tR xs)
theorem aFY {f : Sg -> R PyData} (h : PE X e (tCB (fun xs H Q => ∃ z : Str, xs = [.str z] /\ z.cps.toList.length <= 16777216 /\ ∀ l, H l = none -> Q (.ref l) (upd H l (.lst (pL z)))) (gM (tV (bR c) c E f) j6))) : PN X c E e (e1 dLS f) := PE.imp h fun σ H Q zz0 => by
 obtain ⟨ρ, F, ab, k⟩ := zz0
 refine ⟨ρ, F, ab, (Rk.bind k).imp fun d hd q v F1 H1 s1 r1 => ?_⟩
 clear hd
 unfold dLS at q
 split at q
 ·rename_i z
  split at q
  ·rename_i hn
   obtain rfl := a7.str_of r1
   refine ⟨z, rfl, hn, fun l hl => ?_⟩
   have e2 : Ext F1 _ F1 (upd H1 l (.lst (pL z))) := Ext.own s1.fh hl
   exact Rk.ok q _ F1 _ (s1.trans e2) ⟨l, _, rfl, cB s1.hh hl, aW, cB s1.fh hl, tR _⟩
  ·exact q.elim
 ·exact q.elim
end
end Fl
namespace Fl
open PySem L2 PyProof.Rows
end Fl
namespace Fl
open PySem L2 PyProof.Rows
end Fl
namespace Zp
open PySem
end Zp
namespace Mc
open PySem L2 PyProof.Rows Fl
noncomputable def oP : Sg -> R Fw := (bS (vD (e1 dLen (e2 dIx (e2 dIx (rV 0) (eC (.int 0))) (eC (.int 1))))))
noncomputable def iM : List A -> R A := fnF 1 oP
noncomputable def oQ : Sg -> R Fw := (bS (vD (eL (dJ [none, some 1] (e1 cJ (rV 0)) (stN 0) eS (e2 dIx (e2 dIx (rV 0) (eC (.int 1))) (rV 1))))))
noncomputable def iN : List A -> R A := fnF 2 oQ
noncomputable def l0 : Sg -> R Fw := (aH (bO 2 (vD (eSl dSl (eC (.str "abc")) oNo (oSo (rV 0)))))
 (aH (gA (e1 wS (eV 1)) (stT [(stN 3), (stN 4)]) (sIf (e1 asB (e2 dNin (rV 4) (rV 2))) (tK "NoStrip" ["at"] (aB (eV 3) aL)) sNx))
 (bS (vV 1))))
noncomputable def iA : List A -> R A := fnF 5 l0
noncomputable def pM : Sg -> R Fw := (aH (dC 3 (d6 (aB (eV 0) aL)))
 (aH (wV 4 (wU (eV 0) (eC (.int 0)) aB5))
 (aH (dC 5 (d6 aL))
 (aH (cD (jO (e1 asB (e2 dLt (e1 dLen (rV 5)) (e1 dLen (rV 3)))) (mZ (e1 asB (tO 12 2 (aB (rV 3) (aB (e1 dLen (rV 5)) aL)))))) (aH (dC 6 (d6 aL))
 (aH (gA (e1 cJ (yL 12 1 (aB (e2 dIx (rV 3) (e1 dLen (rV 5))) aL))) (stN 7) (aH (sIf (e1 asB (lY true 4 (eV 7))) (aH (kK 4 (eV 7) (e1 dLen (rV 3)))
 (eI 3 (eV 7))) sNx)
 (eI 6 (tM 4 (eV 7)))))
 (eI 5 (e1 dTup (rV 6))))))
 (sFz 5 (sFz 3 (bS (vD (cV (aB (eV 3) (aB (eV 5) aL)))))))))))
noncomputable def jG : List A -> R A := fnF 8 pM
noncomputable def mL : Sg -> R Fw := (bS (vD (e1 (gQ "str") (rV 0))))
noncomputable def dX : List A -> R A := fnF 1 mL
noncomputable def jS : Sg -> R Fw := (aH (bO 1 (vD (e1 dTup (eL (dJ [none] (e1 cJ (rV 0)) (stN 0) eS (e2 dIx (rV 0) (eC (.int 0))))))))
 (bS (vD (cV (aB (e2 dIx (rV 1) (eC (.int 0))) (aB (eV 1) aL))))))
noncomputable def fY : List A -> R A := fnF 2 jS
noncomputable def pN : Sg -> R Fw := (aH (mK 3)
 (aH (cD (mZ (e1 asB (eA (aZ 1 dX (aB (vV 2) aL))))) (aH (sIf (e1 asB (lY false 3 (eV 2))) (bS (vD (eC (.str "ever")))) sNx)
 (aH (kK 3 (eV 2) (eC (.bool true)))
 (aH (bO 4 (vD (e2 dIx (rV 1) (rV 2))))
 (aH (sIf (e1 asB (e2 dEq (e2 dIx (rV 4) (eC (.int 1))) (eC (.int 1)))) (bS (vD (e2 dIx (rV 4) (eC (.int 0))))) sNx)
 (bO 2 (vD (e2 dIx (rV 0) (e2 dIx (rV 4) (eC (.int 0)))))))))))
 (bS (vV 2))))
noncomputable def iB : List A -> R A := fnF 5 pN
noncomputable def rZ : Sg -> R Fw := (aH (bO 2 (aZ 3 iB (aB (vD (e2 dIx (rV 0) (eC (.int 1)))) (aB (vV 1) (aB (vD (e2 dIx (rV 0) (eC (.int 0)))) aL)))))
 (aH (bO 3 (vD (e1 dTup (eL (dJ [none, some 0, some 1] (dD (e1 dLen (rV 1))) (stN 0) eS (eA (aZ 3 iB (aB (vD (e2 dIx (rV 1) (eC (.int 1)))) (aB (vV 2) (aB (vV 0) aL))))))))))
 (bS (vD (cV (aB (eV 2) (aB (eV 3) aL)))))))
noncomputable def gR : List A -> R A := fnF 4 rZ
noncomputable def kW : Sg -> R Fw := (aH (bO 2 (vD (e2 dIx (rV 1) (eC (.int 0)))))
 (aH (mK 3)
 (aH (cD (mZ (e1 asB (eA (aZ 1 dX (aB (vV 2) aL))))) (aH (sIf (e1 asB (lY false 3 (eV 2))) (bS (vD (eC (.str "ever")))) sNx)
 (aH (kK 3 (eV 2) (eC (.bool true)))
 (aH (bO 4 (vD (e2 dIx (e2 dIx (rV 0) (rV 2)) (eC (.int 2)))))
 (bO 2 (vD (eIf (e1 asB (eA (aZ 1 dX (aB (vV 4) aL)))) (eV 4) (e2 dIx (e2 dIx (rV 1) (eC (.int 1))) (rV 4)))))))))
 (bS (vV 2)))))
noncomputable def eG : List A -> R A := fnF 5 kW
noncomputable def dL : Sg -> R Fw := (bS (vD (eL (dJ [none, some 0] (e1 cJ (rV 1)) (stN 0) eS (eA (aZ 2 gR (aB (vV 1) (aB (vV 0) aL))))))))
noncomputable def fB : Sg -> R Fw := (bS (vD (e2 dGt (e1 dLen (rV 0)) (eC (.int 200)))))
noncomputable def pO : Sg -> R Fw := (aH (dC 1 (dJ [none, some 0] (dD (eA (aZ 1 iM (aB (vV 0) aL)))) (stN 0) eS (eA (aZ 2 iN (aB (vV 1) (aB (vV 0) aL))))))
 (aH (aB6 2 "one_way.<locals>.after")
 (aH (sFz 1 (bO 3 (tQ [1] 3 jG (aB (aZ 1 fY (aB (vV 0) aL)) (aB (wX "one_way.<locals>.after" [1] 4 1 (jR 2 dL) 2) (aB (aB8 [] 1 2 (jR 2 fB)) aL))))))
 (aH (bO 4 (vD (e2 dIx (rV 3) (eC (.int 0)))))
 (aH (sIf (e1 asB (e2 dGt (e1 dLen (rV 4)) (eC (.int 200)))) (aAQ "TooMany" (eC (.int 200))) sNx)
 (bS (vD (cV (aB (e1 dTup (e2 dIx (rV 3) (eC (.int 1)))) (aB (e1 dTup (eL (dJ [none, some 0] (e1 cJ (rV 4)) (stN 0) eS (eA (aZ 2 eG (aB (vV 1) (aB (vV 0) aL))))))) aL))))))))))
noncomputable def jH : List A -> R A := fnF 5 pO
noncomputable def m4 : Sg -> R Fw := (aH (gA (e1 cJ (eV 2)) (stN 3) (bO 1 (vD (e2 dIx (e2 dIx (e2 dIx (rV 0) (eC (.int 0))) (rV 1)) (e2 nL (eC (.str "abc")) (rV 3))))))
 (bS (vV 1)))
noncomputable def iV : List A -> R A := fnF 4 m4
noncomputable def oR : Sg -> R Fw := (bS (vD (e1 dLen (e2 dIx (e2 dIx (rV 0) (eC (.int 0))) (eC (.int 0))))))
noncomputable def jT : List A -> R A := fnF 1 oR
noncomputable def mM : Sg -> R Fw := (bS (aZ 3 iV (aB (vV 0) (aB (vD (eC (.int 0))) (aB (aZ 2 iA (aB (aZ 1 jT (aB (vV 0) aL)) (aB (vV 1) aL))) aL)))))
noncomputable def fZ : List A -> R A := fnF 2 mM
noncomputable def mO : Sg -> R Fw := (bS (vD (e2 dIx (e2 dIx (rV 0) (eC (.int 1))) (eA (aZ 2 fZ (aB (vV 0) (aB (vV 1) aL)))))))
noncomputable def fK : List A -> R A := fnF 2 mO
end Mc
namespace Mc
open PySem L2 PyProof.Rows
theorem nM {rs : List Rw} {sg : Nat} {r : Rw} {k : Nat} (M : Mach rs sg) (hr : r ∈ rs) (hk : k < sg) : r.c[k]? = some (r.c.getD k (0, 0)) /\ lR rs.length (r.c.getD k (0, 0)) := by
 have h := M.row r hr
 have hl : k < r.c.length := by rw [h.2]; exact hk
 have e : r.c[k]? = some (r.c.getD k (0, 0)) := by rw [List.getD_eq_getElem?_getD, List.getElem?_eq_getElem hl]; rfl
 exact ⟨e, h.1.2.2 _ (List.mem_of_getElem? e)⟩
theorem a8.take {sg : Nat} {z : List Nat} (S : a8 sg z) (i : Nat) : a8 sg (z.take i) := ⟨by rw [List.length_take]; have := S.1; omega, fun c hc => S.2 c (List.mem_of_mem_take hc)⟩
theorem tS (l : List Nat) (a : Nat) : ∀ n : Nat, a + n <= l.length -> ((List.range n).map fun k => a + k).filterMap (fun i => l[i]?) = (l.drop a).take n
 | 0, _ => rfl
 | n + 1, h => by
  rw [List.range_succ, List.map_append, List.filterMap_append, tS l a n (by omega), List.take_add_one, List.getElem?_drop]
  have hl : a + n < l.length := by omega
  rw [List.getElem?_eq_getElem hl]
  show _ ++ List.filterMap (fun i => l[i]?) [a + n] = _
  rw [List.filterMap_cons, List.getElem?_eq_getElem hl]; rfl
theorem aD7 {z : Str} {a b : Nat} (h1 : a <= b) (h2 : b <= z.cps.toList.length) : Txt.slice z (some (a : Int)) (some (b : Int)) = ⟨((z.cps.toList.drop a).take (b - a)).toArray⟩ := by
 have hl : z.length = z.cps.toList.length := by rw [Array.length_toList]; rfl
 unfold Txt.slice
 rw [StrLaws.strSliceIndices_plain h1 (by rw [hl]; exact h2)]
 have e : ((List.range (b - a)).map fun k => a + k).filterMap (fun i => z.cps[i]?) = (z.cps.toList.drop a).take (b - a) := by
  rw [<- tS z.cps.toList a (b - a) (by omega)]
  congr 1
  funext i
  rw [Array.getElem?_toList]
 rw [e]
 by_cases hc : (1 == 1 && (((List.range (b - a)).map fun k => a + k).length == z.length)) = true
 ·have hn : b - a = z.length := by
   rw [Bool.and_eq_true] at hc
   simpa using hc.2
  have ha : a = 0 := by omega
  have hb : b = z.cps.toList.length := by omega
  have e2 : (z.cps.toList.drop a).take (b - a) = z.cps.toList := by rw [ha, hb, List.drop_zero, Nat.sub_zero, List.take_of_length_le (Nat.le_refl _)]
  rw [e2]
  split
  ·exact aAC (by simp)
  ·rfl
 ·split
  ·rename_i hc'
   exact absurd hc' hc
  ·rfl
theorem aB9 {z : Str} {i : Nat} (h : i <= z.cps.toList.length) : Txt.slice z none (some (i : Int)) = ⟨(z.cps.toList.take i).toArray⟩ := by
 have e : Txt.slice z none (some (i : Int)) = Txt.slice z (some ((0 : Nat) : Int)) (some (i : Int)) := by unfold Txt.slice; rw [StrLaws.sliceIdx_none_lo]; rfl
 rw [e, aD7 (Nat.zero_le _) h]; simp
end Mc
namespace Fl
open PySem L2 PyProof.Rows
@[simp] theorem jU (d : PyData) (ρ : Sg) : eC d ρ = .ok d := id rfl
@[simp] theorem mP {α β : Type} (g : α -> R β) (f : Sg -> R α) (ρ : Sg) : e1 g f ρ = (f ρ).bind g := id rfl
@[simp] theorem lD {α β γ : Type} (g : α -> β -> R γ) (f : Sg -> R α) (f' : Sg -> R β) (ρ : Sg) : e2 g f f' ρ = (f ρ).bind fun x => (f' ρ).bind fun y => g x y := id rfl
@[simp] theorem aGW (i : Nat) (ρ : Sg) : eV i ρ = match ρ[i]? with | some (some (.d x)) => .ok x | _ => .bad := id rfl
@[simp] theorem jV (i : Nat) (ρ : Sg) : rV i ρ = match ρ[i]? with | some (some (.d x)) => .ok x | some (some (.l xs)) => .ok (.list xs) | _ => .bad := id rfl
@[simp] theorem aNA (i : Nat) (ρ : Sg) : vV i ρ = match ρ[i]? with | some (some (.d x)) => .ok (.d x) | some (some (.x e)) => .ok (.x e) | some (some (.g k n f)) => .ok (.g k n f) | _ => .bad := id rfl
@[simp] theorem wY (f : Sg -> R PyData) (ρ : Sg) : vD f ρ = (f ρ).bind fun x => .ok (.d x) := id rfl
@[simp] theorem aPF (x : PyData) : getD (.d x) = .ok x := id rfl
@[simp] theorem aP1 (f : Sg -> R A) (ρ : Sg) : eA f ρ = (f ρ).bind getD := id rfl
@[simp] theorem aNB (f : Sg -> R (List PyData)) (ρ : Sg) : eL f ρ = (f ρ).bind fun xs => .ok (.list xs) := id rfl
@[simp] theorem nN {α : Type} (ρ : Sg) : (aL (α := α)) ρ = .ok [] := id rfl
@[simp] theorem yQ {α : Type} (f : Sg -> R α) (g : Sg -> R (List α)) (ρ : Sg) : aB f g ρ = (f ρ).bind fun x => (g ρ).bind fun xs => .ok (x :: xs) := id rfl
@[simp] theorem aIV (f : Sg -> R (List PyData)) (ρ : Sg) : cV f ρ = (f ρ).bind fun xs => if xs.length <= 16777216 then .ok (.tuple xs) else .bad := id rfl
@[simp] theorem qM (f : Sg -> R (List PyData)) (ρ : Sg) : d6 f ρ = (f ρ).bind fun xs => if xs.length <= 16777216 then .ok xs else .bad := id rfl
@[simp] theorem aOL (n : Nat) (G : List A -> R A) (f : Sg -> R (List A)) (ρ : Sg) : aZ n G f ρ = (f ρ).bind fun as => if as.length = n then G as else .bad := id rfl
@[simp] theorem iW (n : Nat) (fb : Sg -> R Fw) (as : List A) : fnF n fb as = (fb (as.map some ++ List.replicate (n - as.length) none)).bind fun w => match w with | .rt a => .ok a | .nx _ => .ok (.d .none) | _ => .bad := id rfl
@[simp] theorem aD8 (ρ : Sg) : sNx ρ = .ok (.nx ρ) := id rfl
@[simp] theorem cT (f g : Sg -> R Fw) (ρ : Sg) : aH f g ρ = (f ρ).bind fun w => match w with | .nx ρ' => g ρ' | w => .ok w := id rfl
@[simp] theorem aIW (f : Sg -> R A) (ρ : Sg) : bS f ρ = (f ρ).bind fun a => .ok (.rt a) := id rfl
@[simp] theorem aOM (ρ : Sg) : aM2 ρ = .ok (.rt (.d .none)) := id rfl
@[simp] theorem pP (t : Sg -> R Bool) (f g : Sg -> R Fw) (ρ : Sg) : sIf t f g ρ = (t ρ).bind fun b => if b = true then f ρ else g ρ := id rfl
@[simp] theorem aPG {α : Type} (t : Sg -> R Bool) (f g : Sg -> R α) (ρ : Sg) : eIf t f g ρ = (t ρ).bind fun b => if b = true then f ρ else g ρ := id rfl
@[simp] theorem qN (i : Nat) (f : Sg -> R A) (ρ : Sg) : bO i f ρ = (f ρ).bind fun a => .ok (.nx (ρ.set i (some a))) := id rfl
@[simp] theorem l5 (i : Nat) (f : Sg -> R (List PyData)) (ρ : Sg) : dC i f ρ = (f ρ).bind fun xs => .ok (.nx (ρ.set i (some (.l xs)))) := id rfl
@[simp] theorem aON (f : Sg -> R A) (ρ : Sg) : aGQ f ρ = (f ρ).bind fun _ => .ok (.nx ρ) := id rfl
@[simp] theorem aPH (i : Nat) (f : Sg -> R Fw) (ρ : Sg) : sFz i f ρ = f (fz i ρ) := id rfl
@[simp] theorem aP2 (i : Nat) (ρ : Sg) : fz i ρ = match ρ[i]? with | some (some (.l xs)) => ρ.set i (some (.d (.list xs))) | _ => ρ := id rfl
@[simp] theorem aOX (i : Nat) (f : Sg -> R PyData) (ρ : Sg) : eI i f ρ = match ρ[i]? with | some (some (.l xs)) => (f ρ).bind fun x => if xs.length < 16777216 then .ok (.nx (ρ.set i (some (.l (xs ++ [x]))))) else .bad | _ => .bad := id rfl
@[simp] theorem aOY (fs : PyData -> Sg -> Option Sg) (f : Sg -> R PyData) (ρ : Sg) : u8 fs f ρ = (f ρ).bind fun x => (x9 (fs x ρ)).bind fun ρ' => .ok (.nx ρ') := id rfl
@[simp] theorem qO (fi : Sg -> R (List PyData)) (fs : PyData -> Sg -> Option Sg) (fb : Sg -> R Fw) (ρ : Sg) : gA fi fs fb ρ = (fi ρ).bind fun xs => kU fs fb xs ρ := id rfl
@[simp] theorem yR (js : List (Option Nat)) (fi : Sg -> R (List PyData)) (fs : PyData -> Sg -> Option Sg) (ft : Sg -> R Bool) (fe : Sg -> R PyData) (ρ : Sg) : dJ js fi fs ft fe ρ = (fi ρ).bind fun xs => compL fs ft fe (fJ js ρ) xs := id rfl
@[simp] theorem aNT (cn : Str) (fs : List Str) (f : Sg -> R (List PyData)) (ρ : Sg) : tK cn fs f ρ = (f ρ).bind fun xs => if xs.length = fs.length then .ex ⟨cn, fs.zip xs⟩ else .bad := id rfl
@[simp] theorem yS (i : Nat) (x : PyData) (ρ : Sg) : stN i x ρ = some (ρ.set i (some (.d x))) := id rfl
@[simp] theorem aPI (fs : List (PyData -> Sg -> Option Sg)) (xs : List PyData) (ρ : Sg) : stT fs (.tuple xs) ρ = stL fs xs ρ := id rfl
@[simp] theorem aOZ (ρ : Sg) : stL [] [] ρ = some ρ := id rfl
@[simp] theorem aOO (f : PyData -> Sg -> Option Sg) (fs : List (PyData -> Sg -> Option Sg)) (x : PyData) (xs : List PyData) (ρ : Sg) : stL (f :: fs) (x :: xs) ρ = (f x ρ).bind (stL fs xs) := id rfl
@[simp] theorem aAX (ρ : Sg) : eS ρ = .ok true := id rfl
@[simp] theorem pQ (b : Bool) : asB (.bool b) = .ok b := id rfl
@[simp] theorem aO0 (f : Sg -> R Bool) (ρ : Sg) : mZ f ρ = (f ρ).bind fun b => .ok (!b) := id rfl
@[simp] theorem nO (f g : Sg -> R Bool) (ρ : Sg) : jO f g ρ = (f ρ).bind fun b => if b = true then g ρ else .ok false := id rfl
@[simp] theorem aPJ (f g : Sg -> R Bool) (ρ : Sg) : bOr f g ρ = (f ρ).bind fun b => if b = true then .ok true else g ρ := id rfl
@[simp] theorem aO1 (f : Sg -> R PyData) (ρ : Sg) : aOF f ρ = (f ρ).bind fun x => (asB x).bind fun b => .ok (.bool (!b)) := id rfl
@[simp] theorem aO2 (f g : Sg -> R PyData) (ρ : Sg) : aFL f g ρ = (f ρ).bind fun x => (asB x).bind fun b => if b = true then g ρ else .ok (.bool false) := id rfl
@[simp] theorem aPK (f g : Sg -> R PyData) (ρ : Sg) : eOr f g ρ = (f ρ).bind fun x => (asB x).bind fun b => if b = true then .ok (.bool true) else g ρ := id rfl
@[simp] theorem aPL (g g' : PyData -> PyData -> R PyData) (fa fb fc : Sg -> R PyData) (ρ : Sg) : eCh g g' fa fb fc ρ = (fa ρ).bind fun x => (fb ρ).bind fun y => (g x y).bind fun z => (asB z).bind fun k => if k = true then (fc ρ).bind fun w => g' y w else .ok (.bool false) := id rfl
@[simp] theorem aD9 {α : Type} (g : PyData -> Option Int -> Option Int -> R α) (f : Sg -> R PyData) (lo hi : Sg -> R (Option Int)) (ρ : Sg) : eSl g f lo hi ρ = (f ρ).bind fun x => (lo ρ).bind fun l => (hi ρ).bind fun h => g x l h := id rfl
@[simp] theorem aEA (ρ : Sg) : oNo ρ = .ok none := id rfl
@[simp] theorem aEB (f : Sg -> R PyData) (ρ : Sg) : oSo f ρ = (f ρ).bind fun x => match x with | .int i => .ok (some i) | _ => .bad := id rfl
@[simp] theorem oS (f : Sg -> R PyData) (ρ : Sg) : dD f ρ = (f ρ).bind fun x => match x with | .int j => jP 0 j | _ => .bad := id rfl
@[simp] theorem aNC (f g : Sg -> R PyData) (ρ : Sg) : aH3 f g ρ = (f ρ).bind fun x => (g ρ).bind fun y => match x, y with | .int i, .int j => jP i j | _, _ => .bad := id rfl
@[simp] theorem aO3 (f : Sg -> R PyData) (g : Sg -> R (Option Int)) (ρ : Sg) : aOH f g ρ = (f ρ).bind fun x => (g ρ).bind fun o => if o = some (-1) then aK1 x else .bad := id rfl
@[simp] theorem aO4 (i : Nat) (g : PyData -> PyData -> R PyData) (f : Sg -> R PyData) (ρ : Sg) : aOG i g f ρ = (eV i ρ).bind fun x => (f ρ).bind fun y => (g x y).bind fun z => .ok (.nx (ρ.set i (some (.d z)))) := id rfl
@[simp] theorem r0 (i : Nat) (ρ : Sg) : mK i ρ = .ok (.nx (ρ.set i (some (.m [])))) := id rfl
@[simp] theorem aO5 (neg : Bool) (i : Nat) (f : Sg -> R PyData) (ρ : Sg) : lY neg i f ρ = (f ρ).bind fun k => match ρ[i]? with | some (some (.m kvs)) => if eY k (kvs.map (·.1)) = true then .ok (.bool (if neg = true then !gI kvs k else gI kvs k)) else .bad | _ => .bad := id rfl
@[simp] theorem aOP (i : Nat) (f : Sg -> R PyData) (ρ : Sg) : tM i f ρ = match ρ[i]? with | some (some (.m kvs)) => (f ρ).bind fun k => if eY k (kvs.map (·.1)) = true then match jQ kvs k with | some v => .ok v | none => .bad else .bad | _ => .bad := id rfl
@[simp] theorem aOQ (i : Nat) (f g : Sg -> R PyData) (ρ : Sg) : kK i f g ρ = (g ρ).bind fun v => match ρ[i]? with | some (some (.m kvs)) => (f ρ).bind fun k => if eY k (kvs.map (·.1)) = true /\ kvs.length <= 16777216 then .ok (.nx (ρ.set i (some (.m (putM kvs k v))))) else .bad | _ => .bad := id rfl
@[simp] theorem tT (i j : Int) : bE (.int i) (.int j) = .ok (.int (i + j)) := id rfl
@[simp] theorem aPM (i j : Int) : dSub (.int i) (.int j) = .ok (.int (i - j)) := id rfl
@[simp] theorem aO6 (i j : Int) : aM1 (.int i) (.int j) = .ok (.int (i + j)) := id rfl
@[simp] theorem aPN (i : Int) : dNeg (.int i) = .ok (.int (-i)) := id rfl
@[simp] theorem tU (i j : Int) : dLt (.int i) (.int j) = .ok (.bool (decide (i < j))) := id rfl
@[simp] theorem aP3 (i j : Int) : dLe (.int i) (.int j) = .ok (.bool (decide (i <= j))) := id rfl
@[simp] theorem aP4 (i j : Int) : dGt (.int i) (.int j) = .ok (.bool (decide (j < i))) := id rfl
@[simp] theorem aP5 (i j : Int) : dGe (.int i) (.int j) = .ok (.bool (decide (j <= i))) := id rfl
theorem cK {i j : Int} (h : 0 < j) : dMod (.int i) (.int j) = .ok (.int (i % j)) := if_pos h
theorem gJ {i j : Int} (h : 0 < j) (h2 : j < 18446744073709551616) : dDiv (.int i) (.int j) = .ok (.int (i / j)) := if_pos ⟨h, h2⟩
theorem pR {i j : Int} (h : -18446744073709551616 < j) (h2 : j < 18446744073709551616) : dMul (.int i) (.int j) = .ok (.int (i * j)) := if_pos (.inr ⟨h, h2⟩)
theorem tW {i j : Int} (h : -18446744073709551616 < i) (h2 : i < 18446744073709551616) : dMul (.int i) (.int j) = .ok (.int (i * j)) := if_pos (.inl ⟨h, h2⟩)
@[simp] theorem kQ (xs : List PyData) : dLen (.list xs) = .ok (.int xs.length) := id rfl
@[simp] theorem aLN (xs : List PyData) : dLen (.tuple xs) = .ok (.int xs.length) := id rfl
theorem aEC {z : Str} (h : z.length <= 16777216) : dLen (.str z) = .ok (.int z.length) := if_pos h
@[simp] theorem aPO (xs : List PyData) : dTup (.list xs) = .ok (.tuple xs) := id rfl
@[simp] theorem aPP (xs : List PyData) : dTup (.tuple xs) = .ok (.tuple xs) := id rfl
@[simp] theorem aPQ (xs : List PyData) : aKY (.list xs) = .ok xs := id rfl
@[simp] theorem aPR (xs : List PyData) : aKY (.tuple xs) = .ok xs := id rfl
@[simp] theorem aPS (i : Int) : dInt (.int i) = .ok (.int i) := id rfl
@[simp] theorem aPT (b : Bool) : dInt (.bool b) = .ok (.int (if b = true then 1 else 0)) := id rfl
@[simp] theorem aP6 (x : PyData) : dIs x .none = .ok (.bool (iY x)) := id rfl
@[simp] theorem aO7 (x : PyData) : dIsnt x .none = .ok (.bool (!iY x)) := id rfl
@[simp] theorem aO8 : iY .none = true := id rfl
@[simp] theorem aO9 (xs : List PyData) : iY (.tuple xs) = false := id rfl
@[simp] theorem aPA (i : Int) : iY (.int i) = false := id rfl
@[simp] theorem aPB (i : Str) : iY (.str i) = false := id rfl
theorem nQ {α : Type} {xs : List α} {i : Int} {v : α} (h0 : 0 <= i) (h : xs[i.toNat]? = some v) : atI xs i = some v := by
 obtain ⟨j, rfl⟩ : ∃ j : Nat, i = j := ⟨i.toNat, by omega⟩
 exact gD (j := j) h
theorem yT {α : Type} (x : α) (t : List α) : atI (x :: t) 0 = some x := gD (j := 0) rfl
theorem aAY {α : Type} (x y : α) (t : List α) : atI (x :: y :: t) 1 = some y := gD (j := 1) rfl
theorem aIX {α : Type} (x y z : α) (t : List α) : atI (x :: y :: z :: t) 2 = some z := gD (j := 2) rfl
theorem jW {xs : List PyData} {i : Int} {v : PyData} (h : atI xs i = some v) : dIx (.tuple xs) (.int i) = .ok v := by show (match atI xs i with | some v => R.ok v | none => .bad) = _; rw [h]
theorem qP {xs : List PyData} {i : Int} {v : PyData} (h : atI xs i = some v) : dIx (.list xs) (.int i) = .ok v := by show (match atI xs i with | some v => R.ok v | none => .bad) = _; rw [h]
theorem aGX {z : Str} {i : Int} {u : Nat} (hz : z.length <= 16777216) (h : atI z.cps.toList i = some u) : dIx (.str z) (.int i) = .ok (.str ⟨#[u]⟩) := by
 show (if z.length <= sizeLine then match atI z.cps.toList i with | some u => R.ok (PyData.str ⟨#[u]⟩) | none => .bad else .bad) = _
 rw [dF, if_pos hz, h]
@[simp] theorem yU (x : PyData) (t : List PyData) : dIx (.tuple (x :: t)) (.int 0) = .ok x := jW (yT x t)
@[simp] theorem aLO (x y : PyData) (t : List PyData) : dIx (.tuple (x :: y :: t)) (.int 1) = .ok y := jW (aAY x y t)
@[simp] theorem aPU (x y z : PyData) (t : List PyData) : dIx (.tuple (x :: y :: z :: t)) (.int 2) = .ok z := jW (aIX x y z t)
@[simp] theorem aLP (x : PyData) (t : List PyData) : dIx (.list (x :: t)) (.int 0) = .ok x := qP (yT x t)
@[simp] theorem aLQ (x y : PyData) (t : List PyData) : dIx (.list (x :: y :: t)) (.int 1) = .ok y := qP (aAY x y t)
theorem r6 {xs : List PyData} (h : xs.length <= 16777216) : cJ (.tuple xs) = .ok xs := if_pos h
theorem kD {xs : List PyData} (h : xs.length <= 16777216) : cJ (.list xs) = .ok xs := if_pos h
theorem r9 {z : Str} (h : z.cps.toList.length <= 16777216) : cJ (.str z) = .ok (z.cps.toList.map fun u => .str ⟨#[u]⟩) := if_pos h
theorem aLR {x y : PyData} (hx : SeqAt.shaped x = true) (hy : SeqAt.shaped y = true) : dEq x y = .ok (.bool (PyData.eqv x y)) := if_pos ⟨hx, hy⟩
theorem aED {x y : PyData} (hx : SeqAt.shaped x = true) (hy : SeqAt.shaped y = true) : dNe x y = .ok (.bool (!PyData.eqv x y)) := if_pos ⟨hx, hy⟩
@[simp] theorem aPV (T : String) (i : Int) : gQ T (.int i) = .ok (.bool (i8 "int" T)) := id rfl
@[simp] theorem aPW (T : String) (i : Str) : gQ T (.str i) = .ok (.bool (i8 "str" T)) := id rfl
@[simp] theorem aPX (T : String) (i : List PyData) : gQ T (.tuple i) = .ok (.bool (i8 "tuple" T)) := id rfl
@[simp] theorem aPY (T : String) (i : List PyData) : gQ T (.list i) = .ok (.bool (i8 "list" T)) := id rfl
@[simp] theorem aPZ (T : String) (i : Bool) : gQ T (.bool i) = .ok (.bool (i8 "bool" T)) := id rfl
@[simp] theorem aP0 (T : String) : gQ T .none = .ok (.bool (i8 "NoneType" T)) := id rfl
theorem aND {xs : List PyData} {lo hi : Option Int} (h : ¬ (HT.sIx xs.length 0 lo = 0 /\ HT.sIx xs.length xs.length hi = xs.length)) : dSl (.tuple xs) lo hi = .ok (.tuple (pI xs lo hi)) := by
 unfold dSl; exact if_pos h
theorem aCA {z : Str} {lo hi : Option Int} (h : z.length <= 16777216) : dSl (.str z) lo hi = .ok (.str (Txt.slice z lo hi)) := by
 unfold dSl; exact if_pos h
theorem aLS {xs ys : List PyData} (h : xs.isEmpty = false) (h2 : xs.length + ys.length <= 16777216) : bE (.tuple xs) (.tuple ys) = .ok (.tuple (xs ++ ys)) := by
 unfold bE; exact if_pos ⟨h, by rw [dF]; exact h2⟩
theorem tX {x y : Str} (h : x.length + y.length <= 16777216) : bE (.str x) (.str y) = .ok (.str (x ++ y)) := by
 unfold bE; exact if_pos (by rw [dF]; exact h)
theorem dM {α : Type} {fs : PyData -> Sg -> Option Sg} {fe : Sg -> R PyData} {ρ0 : Sg} {d : α -> PyData} {g : α -> PyData} : ∀ {xs : List α}, (∀ x ∈ xs, ∃ ρ1, fs (d x) ρ0 = some ρ1 /\ fe ρ1 = .ok (g x)) -> compL fs eS fe ρ0 (xs.map d) = .ok (xs.map g)
 | [], _ => rfl
 | x :: t, h => by
  obtain ⟨ρ1, h1, h2⟩ := h x List.mem_cons_self
  rw [List.map_cons]
  unfold compL
  rw [h1, dM fun y hy => h y (List.mem_cons_of_mem _ hy), pE, R.bind_ok, aAX, R.noEx_ok, R.bind_ok, if_pos rfl, h2]; rfl
theorem fQ {α : Type} {fs : PyData -> Sg -> Option Sg} {fb : Sg -> R Fw} {d : α -> PyData} {xs : List α} {ρ : Sg} (J : Nat -> Sg -> Prop) (h0 : J 0 ρ) (hs : ∀ (i : Nat) (x : α) (ρ : Sg), xs[i]? = some x -> J i ρ -> ∃ ρ1 ρ2, fs (d x) ρ = some ρ1 /\ (fb ρ1 = .ok (.nx ρ2) \/ fb ρ1 = .ok (.ct ρ2)) /\ J (i + 1) ρ2) :
  ∃ ρ', kU fs fb (xs.map d) ρ = .ok (.nx ρ') /\ J xs.length ρ' := by
 induction xs generalizing ρ J with
 | nil => exact ⟨ρ, rfl, h0⟩
 | cons x t ih =>
  obtain ⟨ρ1, ρ2, h1, h2, h3⟩ := hs 0 x ρ rfl h0
  obtain ⟨ρ', q1, q2⟩ := ih (ρ := ρ2) (fun i => J (i + 1)) h3 (fun i y ρ hy hj => hs (i + 1) y ρ (by simpa using hy) hj)
  refine ⟨ρ', ?_, q2⟩
  rw [List.map_cons]
  unfold kU
  rw [h1, pE, R.bind_ok]
  rcases h2 with h2 | h2 <;> rw [h2] <;> exact q1
end Fl
namespace Fl
open PySem L2 PyProof.Rows
theorem kR {t : Sg -> R Bool} {b : Sg -> R Fw} {ρ ρ' : Sg} (h1 : t ρ = .ok true) (h2 : b ρ = .ok (.nx ρ')) : cD t b ρ = cD t b ρ' := by
 rw [pG, h1, R.bind_ok, if_pos rfl, h2]; rfl
theorem mQ {t : Sg -> R Bool} {b : Sg -> R Fw} {ρ : Sg} {a : A} (h1 : t ρ = .ok true) (h2 : b ρ = .ok (.rt a)) : cD t b ρ = .ok (.rt a) := by
 rw [pG, h1, R.bind_ok, if_pos rfl, h2]; rfl
theorem iC {t : Sg -> R Bool} {b : Sg -> R Fw} {ρ : Sg} (h1 : t ρ = .ok false) : cD t b ρ = .ok (.nx ρ) := by
 rw [pG, h1, R.bind_ok, if_neg (by decide)]
def been {α : Type} (d : α -> PyData) (ps : List α) : List (PyData × PyData) := ps.map fun p => (d p, .bool true)
theorem pS {α : Type} (d : α -> PyData) (ps : List α) : (been d ps).map (·.1) = ps.map d := by unfold been; rw [List.map_map]; rfl
theorem oU {α : Type} {d : α -> PyData} (hd : ∀ a b, d a = d b -> a = b) {ps : List α} {p : α} : gI (been d ps) (d p) = true ↔ p ∈ ps := by
 rw [rX, pS, List.mem_map]
 exact ⟨fun ⟨q, h1, h2⟩ => hd q p h2 ▸ h1, fun h => ⟨p, h, rfl⟩⟩
theorem jI {α : Type} {d : α -> PyData} (hd : ∀ a b, d a = d b -> a = b) {ps : List α} {p : α} (h : p ∉ ps) : gI (been d ps) (d p) = false := by
 cases q : gI (been d ps) (d p) with
 | false => rfl
 | true => exact absurd ((oU hd).mp q) h
theorem l6 {α : Type} {d : α -> PyData} (hd : ∀ a b, d a = d b -> a = b) {ps : List α} {p : α} (h : p ∉ ps) : putM (been d ps) (d p) (.bool true) = been d (ps ++ [p]) := by
 unfold putM
 rw [jI hd h, if_neg (by decide)]
 unfold been
 rw [List.map_append]; rfl
theorem mR {α : Type} {d : α -> PyData} (hk : ∀ a, lT (d a) = true) (ps : List α) (p : α) : eY (d p) ((been d ps).map (·.1)) = true := by
 unfold eY
 rw [pS, hk, Bool.true_and, Bool.or_eq_true, List.all_eq_true]
 refine .inl fun x hx => ?_
 obtain ⟨q, _, rfl⟩ := List.mem_map.mp hx
 exact hk q
theorem kE {α : Type} (d : α -> PyData) (ps : List α) : (been d ps).length = ps.length := by unfold been; rw [List.length_map]
def prD (p : Int × Int) : PyData := .tuple [.int p.1, .int p.2]
theorem qQ (a b : Int × Int) (h : prD a = prD b) : a = b := by
 unfold prD at h
 injection h with h
 injection h with h1 h2
 injection h2 with h2 _
 injection h1 with h1
 injection h2 with h2
 exact Prod.ext h1 h2
theorem qR (a : Int × Int) : lT (prD a) = true := rfl
end Fl
namespace Mc
open PySem L2 PyProof.Rows Fl
theorem aIY {r : Rw} {rs : List Rw} : iM [.d (cM (r :: rs))] = .ok (.d (.int r.c.length)) := by
 simp [iM, oP, cM, bU]
theorem aFZ {n : Nat} (h1 : 1 <= n) (h3 : n <= 3) (z : Str) : ∀ (cs : List Nat) (k : Nat) (u3 u4 : Option A),
  kU (stT [stN 3, stN 4]) (sIf (e1 asB (e2 dNin (rV 4) (rV 2))) (tK "NoStrip" ["at"] (aB (eV 3) aL)) sNx) (kC k (cs.map fun u => .str ⟨#[u]⟩)) [some (.d (.int n)), some (.d (.str z)), some (.d (.str (Txt.slice "abc" none (some (n : Int))))), u3, u4] =
  match iI n k cs with
  | some i => .ex ⟨"NoStrip", [("at", .int i)]⟩
  | none => .ok (.nx [some (.d (.int n)), some (.d (.str z)), some (.d (.str (Txt.slice "abc" none (some (n : Int))))), if cs = [] then u3 else some (.d (.int ((k + cs.length - 1 : Nat) : Int))), if cs = [] then u4 else (cs.getLast?.map fun u => A.d (.str ⟨#[u]⟩))]) := by
 intro cs
 induction cs with
 | nil => intro k u3 u4; rfl
 | cons c t ih =>
  intro k u3 u4
  have hin : dNin (.str ⟨#[c]⟩) (.str (Txt.slice "abc" none (some (n : Int)))) = .ok (.bool (!bV n c)) := by
   show R.ok (PyData.bool (!_)) = _
   rw [aE8 h1 h3]
  rw [List.map_cons, kC]
  unfold kU
  rw [k8]
  cases hs : bV n c with
  | false => simp [hin, hs]
  | true =>
   simp [hin, hs, ih]
   cases iI n (k + 1) t with
   | some i => rfl
   | none =>
    simp
    cases t with
    | nil => simp
    | cons c' t' => simp <;> try omega
theorem aGY {n : Nat} (h1 : 1 <= n) (h3 : n <= 3) {z : Str} (hz : z.cps.toList.length <= 16777216) : iA [.d (.int n), .d (.str z)] = match iI n 0 z.cps.toList with
  | some i => .ex ⟨"NoStrip", [("at", .int i)]⟩
  | none => .ok (.d (.str z)) := by
 have hs : dSl (.str "abc") none (some (n : Int)) = .ok (.str (Txt.slice "abc" none (some (n : Int)))) := by
  show (if ("abc" : Str).length <= 16777216 then R.ok _ else .bad) = _
  exact if_pos (by decide)
 have hn : wS (.str z) = .ok (kC 0 (z.cps.toList.map fun u => .str ⟨#[u]⟩)) := by
  show (if z.cps.toList.length <= 16777216 then R.ok _ else .bad) = _
  exact if_pos hz
 simp only [iA, l0, iW, cT, qN, wY, aD9, jU, aEA, aEB, R.bind_ok, jV, qO, mP, aGW, List.map_cons, List.map_nil, List.cons_append, List.nil_append, List.length_cons, List.length_nil]
 simp only [List.replicate, List.getElem?_cons_zero, List.getElem?_cons_succ, hs, R.bind_ok, List.set_cons_succ, List.set_cons_zero, hn, aFZ h1 h3]
 cases iI n 0 z.cps.toList with
 | some i => rfl
 | none => rfl
theorem Mach.cons {rs : List Rw} {sg : Nat} (M : Mach rs sg) : ∃ r t, rs = r :: t /\ r.c.length = sg := by
 cases rs with
 | nil => have := M.len; simp at this
 | cons r t => exact ⟨r, t, rfl, (M.row r List.mem_cons_self).2⟩
def ck (k : Nat) (r : Rw) : Int × Int := r.c.getD k (0, 0)
theorem aIZ {rs : List Rw} {sg k : Nat} (M : Mach rs sg) (hk : k < sg) : iN [.d (cM rs), .d (.int k)] = .ok (.d (.list (rs.map fun r => cG (ck k r)))) := by
 have h := dM (fs := stN 0) (fe := e2 dIx (e2 dIx (rV 0) (eC (.int 1))) (rV 1)) (ρ0 := [none, some (.d (.int k))]) (d := bU) (g := fun r => cG (ck k r)) (xs := rs) fun r hr => by
  refine ⟨_, rfl, ?_⟩
  have e : dIx (.tuple (r.c.map cG)) (.int (k : Int)) = .ok (cG (ck k r)) := jW (gD (j := k) (by rw [List.getElem?_map, (nM M hr hk).1]; rfl))
  simp [bU, e]
 have hl : (rs.map bU).length <= 16777216 := by have := M.len2; rw [List.length_map]; omega
 simp [iN, oQ, cM, r6 hl, fJ, h]
theorem eH {n : Nat} (h : n <= 16777216) : jP 0 (n : Int) = .ok ((List.range n).map fun i : Nat => .int (i : Int)) := by
 unfold jP
 rw [if_pos (by omega)]
 unfold lV
 simp
theorem aEE (z y : Str) : nL (.str z) (.str y) = match Builtin.Str.occurrences z y 0 z.length 1 with | i :: _ => R.ok (PyData.int i) | [] => .bad := rfl
theorem aAZ {c : Nat} (h : bV 3 c = true) : nL (.str "abc") (.str ⟨#[c]⟩) = .ok (.int ((c - 97 : Nat) : Int)) := by
 obtain ⟨r, e⟩ := aDE h
 rw [aEE, e]
theorem yV {n c : Nat} (hn : n <= 3) (h : bV n c = true) : bV 3 c = true := decide_eq_true (by have := of_decide_eq_true h; omega)
end Mc
namespace Mc
open PySem L2 PyProof.Rows Fl
theorem lE (i : Int) : SeqAt.shaped (.int i) = true := id rfl
theorem aEF (i j : Int) : PyData.eqv (.int i) (.int j) = decide (i = j) := by
 rw [PyData.eqv.eq_5]
 by_cases h : i = j
 · simp [h]
 · simp [h]
theorem cZ (i j : Int) : dEq (.int i) (.int j) = .ok (.bool (decide (i = j))) := by rw [aLR (lE i) (lE j), aEF]
end Mc
namespace Mc
open PySem L2 PyProof.Rows Fl
end Mc
namespace Mc
open PySem L2 PyProof.Rows Fl
noncomputable def kL : Sg -> R Fw := (aH (bO 2 (vD (eC (.int 0))))
 (aH (sIf (e1 asB (e2 dGt (e1 dLen (rV 0)) (eC (.int 0)))) (bO 2 (vD (e2 dIx (rV 0) (e2 dMod (rV 1) (e1 dLen (rV 0)))))) sNx)
 (aH (bO 3 (vD (e2 dMod (e2 dMul (e2 bE (e2 bE (e2 dMod (rV 2) (eC (.int 2147483647))) (e2 dMul (eC (.int 7919)) (rV 1))) (eC (.int 1))) (eC (.int 48271))) (eC (.int 2147483647)))))
 (bS (vD (e2 bE (e2 dMul (e2 dDiv (rV 2) (eC (.int 2147483647))) (eC (.int 2147483659))) (e2 dMod (e2 bE (e2 dMul (rV 3) (eC (.int 69621))) (e2 dMul (eC (.int 104729)) (rV 1))) (eC (.int 2147483659)))))))))
noncomputable def bM : List A -> R A := fnF 4 kL
noncomputable def lF : Sg -> R Fw := (aH (sIf (e1 asB (e2 dEq (e2 dMod (rV 0) (eC (.int 3))) (eC (.int 0)))) (bS (vD (e2 dIx (eL (d6 (aB (eC (.str "by")) (aB (eC (.str "out")) aL)))) (e2 dMod (e2 dDiv (rV 0) (eC (.int 3))) (eC (.int 2)))))) sNx)
 (bS (vD (e2 dMod (e2 dDiv (rV 0) (eC (.int 3))) (rV 1)))))
noncomputable def f6 : List A -> R A := fnF 2 lF
noncomputable def i9 : Sg -> R Fw := (aH (bO 3 (vD (e2 dMod (rV 0) (e2 bE (rV 1) (eC (.int 2))))))
 (aH (bO 0 (vD (e2 dDiv (rV 0) (e2 bE (rV 1) (eC (.int 2))))))
 (aH (dC 4 (d6 aL))
 (aH (gA (dD (rV 2)) (stN 5) (aH (eI 4 (cV (aB (e2 dMod (e2 dDiv (rV 0) (eC (.int 2))) (rV 1)) (aB (e2 dSub (eC (.int 1)) (e2 dMul (e2 dMod (rV 0) (eC (.int 2))) (eC (.int 2)))) aL))))
 (bO 0 (vD (e2 dDiv (rV 0) (e2 dMul (eC (.int 2)) (rV 1)))))))
 (aH (dC 6 (d6 (aB (eV 3) (aB (e2 dMod (rV 0) (e2 bE (rV 1) (eC (.int 2)))) aL))))
 (aH (dC 6 (dJ [none, some 1] (e1 cJ (rV 6)) (stN 0) eS (eIf (e1 asB (e2 dGe (rV 0) (rV 1))) (e2 dIx (eL (d6 (aB (eC (.str "by")) (aB (eC (.str "out")) aL)))) (e2 dSub (rV 0) (rV 1))) (eV 0))))
 (bS (vD (cV (aB (e2 dIx (rV 6) (eC (.int 0))) (aB (e1 dTup (rV 4)) (aB (e2 dIx (rV 6) (eC (.int 1))) aL))))))))))))
noncomputable def eP : List A -> R A := fnF 7 i9
noncomputable def jA : Sg -> R Fw := (aH (dC 3 (d6 aL))
 (aH (gA (dD (e2 bE (rV 2) (eC (.int 2)))) (stN 4) (aH (bO 0 (vD (e2 dMod (e2 bE (e2 dMul (rV 0) (eC (.int 48271))) (eC (.int 7919))) (eC (.int 2147483647)))))
 (eI 3 (e2 dDiv (rV 0) (eC (.int 64))))))
 (aH (bO 5 (vD (e1 dTup (eL (dJ [none, some 1] (e1 cJ (eSl dSl (rV 3) (oSo (eC (.int 2))) oNo)) (stN 0) eS (cV (aB (e2 dMod (rV 0) (rV 1)) (aB (e2 dSub (eC (.int 1)) (e2 dMul (e2 dDiv (e2 dMod (e2 dDiv (rV 0) (eC (.int 64))) (eC (.int 3))) (eC (.int 2))) (eC (.int 2)))) aL))))))))
 (bS (vD (cV (aB (eA (aZ 2 f6 (aB (vD (e2 dIx (rV 3) (eC (.int 0)))) (aB (vV 1) aL)))) (aB (eV 5) (aB (eA (aZ 2 f6 (aB (vD (e2 dIx (rV 3) (eC (.int 1)))) (aB (vV 1) aL)))) aL)))))))))
noncomputable def dN : List A -> R A := fnF 6 jA
noncomputable def kF : Sg -> R Fw := (aH (dC 4 (d6 aL))
 (aH (gA (dD (rV 2)) (stN 5) (sIf (jO (e1 asB (e2 dLt (e2 bE (rV 1) (rV 5)) (e1 dLen (rV 0)))) (e1 asB (e2 dEq (e2 dMod (e2 dIx (rV 0) (eC (.int 0))) (eC (.int 2))) (eC (.int 1))))) (eI 4 (eA (aZ 3 eP (aB (vD (e2 dIx (rV 0) (e2 bE (rV 1) (rV 5)))) (aB (vV 2) (aB (vV 3) aL)))))) (aH (bO 6 (aZ 3 dN (aB (vD (e2 dMod (eA (aZ 2 bM (aB (vV 0) (aB (vD (e2 bE (rV 1) (rV 5))) aL)))) (eC (.int 2147483647)))) (aB (vV 2) (aB (vV 3) aL)))))
 (aH (sIf (jO (e1 asB (e2 dEq (rV 5) (eC (.int 0)))) (jO (e1 asB (e1 (gQ "str") (e2 dIx (rV 6) (eC (.int 0))))) (e1 asB (e2 dGt (e2 dMod (e2 dDiv (eA (aZ 2 bM (aB (vV 0) (aB (vV 1) aL)))) (eC (.int 8))) (eC (.int 8))) (eC (.int 0)))))) (bO 6 (vD (e2 bE (cV (aB (e2 dMod (e2 dDiv (eA (aZ 2 bM (aB (vV 0) (aB (vV 1) aL)))) (eC (.int 64))) (rV 2)) aL)) (eSl dSl (rV 6) (oSo (eC (.int 1))) oNo)))) sNx)
 (eI 4 (eV 6))))))
 (bS (vD (e1 dTup (rV 4))))))
noncomputable def dY : List A -> R A := fnF 7 kF
noncomputable def iD : Sg -> R Fw := (aH (sIf (jO (e1 asB (e2 dLt (rV 1) (e1 dLen (rV 0)))) (e1 asB (e2 dEq (e2 dMod (e2 dIx (rV 0) (eC (.int 0))) (eC (.int 2))) (eC (.int 1))))) (aH (bO 4 (vD (e2 dIx (rV 0) (rV 1))))
 (aH (bO 5 (vD (eC (.str ""))))
 (aH (gA (dD (rV 2)) (stN 6) (aH (bO 5 (vD (e2 bE (rV 5) (e2 dIx (eC (.str "abc")) (e2 dMod (rV 4) (rV 3))))))
 (bO 4 (vD (e2 dDiv (rV 4) (rV 3))))))
 (bS (vV 5))))) sNx)
 (bS (vD (e2 wR (eC (.str "")) (eL (dJ [none, some 0, some 1, some 3] (dD (rV 2)) (stN 0) eS (e2 dIx (eC (.str "abc")) (e2 dMod (eA (aZ 2 bM (aB (vV 1) (aB (vD (e2 bE (rV 2) (rV 0))) aL)))) (rV 3)))))))))
noncomputable def eU : List A -> R A := fnF 7 iD
noncomputable def m5 : Sg -> R Fw := (aH (u8 (stT [(stN 3), (stN 4)]) (eV 2))
 (aH (u8 (stT [(stN 5), (stN 6), (stN 7)]) (e2 dIx (rV 0) (rV 4)))
 (aH (sIf (bOr (e1 asB (e2 dEq (rV 3) (eC (.int 0)))) (e1 asB (e2 dGt (rV 3) (e1 dLen (rV 1))))) (aH (bO 8 (vD (e2 dIx (eL (d6 (aB (eV 5) (aB (eV 7) aL)))) (e1 dInt (e2 dGt (rV 3) (eC (.int 0)))))))
 (aH (sIf (e1 asB (e1 (gQ "str") (rV 8))) (bS (vD (eC .none))) sNx)
 (bS (vD (cV (aB (e2 dIx (eL (d6 (aB (eC (.int 1)) (aB (e1 dLen (rV 1)) aL)))) (e1 dInt (e2 dGt (rV 3) (eC (.int 0))))) (aB (eV 8) aL))))))) sNx)
 (aH (u8 (stT [(stN 8), (stN 9)]) (e2 dIx (rV 6) (e2 nL (eC (.str "abc")) (e2 dIx (rV 1) (e2 dSub (rV 3) (eC (.int 1)))))))
 (bS (vD (cV (aB (e2 bE (rV 3) (rV 9)) (aB (eV 8) aL)))))))))
noncomputable def fM : List A -> R A := fnF 10 m5
noncomputable def kX : Sg -> R Fw := (aH (dC 2 (d6 (aB (cV (aB (eC (.int 0)) (aB (eC (.int 0)) aL))) aL)))
 (aH (mK 3)
 (aH (cD (e1 asB (lY true 3 (e2 dIx (rV 2) (e1 dNeg (eC (.int 1)))))) (aH (kK 3 (e2 dIx (rV 2) (e1 dNeg (eC (.int 1)))) (eC (.bool true)))
 (aH (bO 4 (aZ 3 fM (aB (vV 0) (aB (vV 1) (aB (vD (e2 dIx (rV 2) (e1 dNeg (eC (.int 1))))) aL)))))
 (aH (sIf (e1 asB (e2 dIs (rV 4) (eC .none))) (sFz 2 (bS (vV 2))) sNx)
 (eI 2 (eV 4))))))
 (sFz 2 (bS (vV 2))))))
noncomputable def gW : List A -> R A := fnF 5 kX
noncomputable def m6 : Sg -> R Fw := (aH (u8 (stT [(stN 2), (stN 3)]) (e2 dIx (eA (aZ 2 gW (aB (vV 0) (aB (vV 1) aL)))) (e1 dNeg (eC (.int 1)))))
 (aH (sIf (e1 asB (e2 dIsnt (eA (aZ 3 fM (aB (vV 0) (aB (vV 1) (aB (vD (cV (aB (eV 2) (aB (eV 3) aL)))) aL))))) (eC .none))) (bS (vD (eC (.str "ever")))) sNx)
 (bS (vD (e2 dIx (eL (d6 (aB (e2 dIx (e2 dIx (rV 0) (rV 3)) (eC (.int 0))) (aB (e2 dIx (e2 dIx (rV 0) (rV 3)) (eC (.int 2))) aL)))) (e1 dInt (e2 dGt (rV 2) (eC (.int 0)))))))))
noncomputable def gY : List A -> R A := fnF 4 m6
end Mc
namespace Mc
open PySem L2 PyProof.Rows Fl
def d3 (ns : List Int) : PyData := .list (ns.map .int)
theorem iO (ns : List Int) : dLen (d3 ns) = .ok (.int ns.length) := by unfold d3; rw [kQ, List.length_map]
theorem pT {ns : List Int} {i : Int} (h0 : 0 <= i) (h1 : i < ns.length) : ∃ v, dIx (d3 ns) (.int i) = .ok (.int v) := by
 refine ⟨ns[i.toNat]'(by omega), qP (nQ h0 ?_)⟩
 rw [List.getElem?_map, List.getElem?_eq_getElem (by omega)]; rfl
theorem nR (ns : List Int) (k : Int) : ∃ v, bM [.d (d3 ns), .d (.int k)] = .ok (.d (.int v)) := by
 by_cases h : (0 : Int) < ns.length
 ·obtain ⟨v, hv⟩ := pT (ns := ns) (i := k % (ns.length : Int)) (Int.emod_nonneg _ (by omega)) (Int.emod_lt_of_pos _ h)
  have hm : dMod (.int k) (.int (ns.length : Int)) = .ok (.int (k % (ns.length : Int))) := cK h
  have hd : 0 < ns.length := by omega
  refine ⟨v / 2147483647 * 2147483659 + ((v % 2147483647 + 7919 * k + 1) * 48271 % 2147483647 * 69621 + 104729 * k) % 2147483659, ?_⟩
  unfold bM kL
  simp [iO, hd, hm, hv, cK, pR, tW, gJ]
 ·have hd : ¬ 0 < ns.length := by omega
  refine ⟨((7919 * k + 1) * 48271 % 2147483647 * 69621 + 104729 * k) % 2147483659, ?_⟩
  unfold bM kL
  simp [iO, hd, cK, pR, tW, gJ]
theorem aLT (x y : PyData) (i : Int) : ∃ z, dIx (.list [x, y]) (.int (i % 2)) = .ok z /\ (z = x \/ z = y) := by
 rcases Int.emod_two_eq i with h | h
 · rw [h]; exact ⟨x, aLP _ _, .inl rfl⟩
 · rw [h]; exact ⟨y, aLQ _ _ _, .inr rfl⟩
theorem aGZ (x : Int) {n : Int} (hn : 0 < n) : ∃ t : Tn, f6 [.d (.int x), .d (.int n)] = .ok (.d t.d) /\ t.good n := by
 by_cases h : x % 3 = 0
 ·obtain ⟨z, hz, hzz⟩ := aLT (.str "by") (.str "out") (x / 3)
  have hd : decide (x % 3 = 0) = true := decide_eq_true h
  have e : f6 [.d (.int x), .d (.int n)] = .ok (.d z) := by
   unfold f6 lF
   simp [cK, gJ, cZ, hd, hz]
  rcases hzz with rfl | rfl
  ·exact ⟨.w "by", e, .inl rfl⟩
  ·exact ⟨.w "out", e, .inr rfl⟩
 ·have hd : decide (x % 3 = 0) = false := decide_eq_false h
  refine ⟨.n (x / 3 % n), ?_, Int.emod_nonneg _ (by omega), Int.emod_lt_of_pos _ hn⟩
  unfold f6 lF
  simp [cK, gJ, cZ, hd, hn]
  rfl
theorem aA0 (x : Int) {n : Int} {sg : Nat} (hn : 0 < n) (hs : sg <= 1000) : ∃ r : Rw, dN [.d (.int x), .d (.int n), .d (.int sg)] = .ok (.d (bU r)) /\ r.good n /\ r.c.length = sg := by
 have hr : jP 0 ((sg : Int) + 2) = .ok ((List.range (sg + 2)).map fun i : Nat => .int (i : Int)) := by
  have := eH (n := sg + 2) (by omega)
  rw [show (((sg + 2 : Nat)) : Int) = (sg : Int) + 2 by omega] at this
  exact this
 obtain ⟨ρ', hf, y, ps, u4, hp, rfl⟩ := fQ (fs := stN 4) (fb := aH (bO 0 (vD (e2 dMod (e2 bE (e2 dMul (rV 0) (eC (.int 48271))) (eC (.int 7919))) (eC (.int 2147483647))))) (eI 3 (e2 dDiv (rV 0) (eC (.int 64)))))
  (d := fun i : Nat => .int (i : Int)) (xs := List.range (sg + 2)) (ρ := [some (.d (.int x)), some (.d (.int n)), some (.d (.int sg)), some (.l []), none, none])
  (fun i ρ => ∃ (y : Int) (ps : List Int) (u4 : Option A), ps.length = i /\ ρ = [some (.d (.int y)), some (.d (.int n)), some (.d (.int sg)), some (.l (ps.map .int)), u4, none]) ⟨x, [], none, rfl, rfl⟩
  (fun i k ρ hk hρ => by
   obtain ⟨y, ps, u4, hp, rfl⟩ := hρ
   have hi : i < sg + 2 := by have := (List.getElem?_eq_some_iff.mp hk).1; simpa using this
   refine ⟨_, _, rfl, .inl ?_, (y * 48271 + 7919) % 2147483647, ps ++ [(y * 48271 + 7919) % 2147483647 / 64], some (.d (.int k)), by simp [hp], rfl⟩
   have hl : (ps.map PyData.int).length < 16777216 := by rw [List.length_map, hp]; omega
   simp [pR, tW, cK, gJ, hl]
   omega)
 rw [List.length_range] at hp
 obtain ⟨p0, p1, qs, rfl, hq⟩ : ∃ p0 p1 qs, ps = p0 :: p1 :: qs /\ qs.length = sg := by
  match ps, hp with
  | p0 :: p1 :: qs, hp => exact ⟨p0, p1, qs, rfl, by simpa using hp⟩
 have hcut : dSl (.list ((p0 :: p1 :: qs).map .int)) (some 2) none = .ok (.list (qs.map .int)) := by
  show R.ok (PyData.list (pI _ _ _)) = _
  unfold pI HT.sIx
  simp
  rw [List.take_of_length_le (by simp)]
 obtain ⟨t0, e0, g0⟩ := aGZ p0 hn
 obtain ⟨t1, e1', g1⟩ := aGZ p1 hn
 have hc := dM (fs := stN 0) (fe := cV (aB (e2 dMod (rV 0) (rV 1)) (aB (e2 dSub (eC (.int 1)) (e2 dMul (e2 dDiv (e2 dMod (e2 dDiv (rV 0) (eC (.int 64))) (eC (.int 3))) (eC (.int 2))) (eC (.int 2)))) aL))) (ρ0 := [none, some (.d (.int n))]) (d := PyData.int) (g := fun q => cG (q % n, 1 - q / 64 % 3 / 2 * 2)) (xs := qs) fun q _ => ⟨_, rfl, by simp [cK, gJ, pR, hn, cG]⟩
 have hi : cJ (.list (qs.map .int)) = .ok (qs.map .int) := kD (by rw [List.length_map]; omega)
 refine ⟨⟨t0, qs.map fun q => (q % n, 1 - q / 64 % 3 / 2 * 2), t1⟩, ?_, ⟨g0, g1, fun c hc => ?_⟩, by simpa using hq⟩
 ·unfold dN jA
  simp only [iW, List.map_cons, List.map_nil, List.cons_append, List.nil_append, List.length_cons, List.length_nil, List.replicate, cT, l5, qM, nN, R.bind_ok]
  simp [hr]
  rw [hf]
  simp at hcut hi hc
  simp [hcut, hi, fJ, hc, e0, e1', bU]
 ·obtain ⟨q, _, rfl⟩ := List.mem_map.mp hc
  refine ⟨Int.emod_nonneg _ (by omega), Int.emod_lt_of_pos _ hn, ?_⟩
  simp only
  omega
end Mc
namespace Mc
open PySem L2 PyProof.Rows Fl
theorem aI0 (x : Int) {n : Int} {sg : Nat} (hn : 0 < n) (hn2 : n <= 1000) (hs : sg <= 1000) : ∃ r : Rw, eP [.d (.int x), .d (.int n), .d (.int sg)] = .ok (.d (bU r)) /\ r.good n /\ r.c.length = sg := by
 have hr := eH (n := sg) (by omega)
 have hn3 : (0 : Int) < n + 2 := by omega
 have hn4 : n + 2 < 18446744073709551616 := by omega
 have h2n : (0 : Int) < 2 * n := by omega
 have h2n' : 2 * n < 18446744073709551616 := by omega
 obtain ⟨ρ', hf, y, cs, u5, hp, hg, rfl⟩ := fQ (fs := stN 5) (fb := aH (eI 4 (cV (aB (e2 dMod (e2 dDiv (rV 0) (eC (.int 2))) (rV 1)) (aB (e2 dSub (eC (.int 1)) (e2 dMul (e2 dMod (rV 0) (eC (.int 2))) (eC (.int 2)))) aL)))) (bO 0 (vD (e2 dDiv (rV 0) (e2 dMul (eC (.int 2)) (rV 1))))))
  (d := fun i : Nat => .int (i : Int)) (xs := List.range sg) (ρ := [some (.d (.int (x / (n + 2)))), some (.d (.int n)), some (.d (.int sg)), some (.d (.int (x % (n + 2)))), some (.l []), none, none])
  (fun i ρ => ∃ (y : Int) (cs : List (Int × Int)) (u5 : Option A), cs.length = i /\ (∀ c ∈ cs, lR n c) /\ ρ = [some (.d (.int y)), some (.d (.int n)), some (.d (.int sg)), some (.d (.int (x % (n + 2)))), some (.l (cs.map cG)), u5, none]) ⟨x / (n + 2), [], none, rfl, fun c hc => by simp at hc, rfl⟩
  (fun i k ρ hk hρ => by
   obtain ⟨y, cs, u5, hp, hg, rfl⟩ := hρ
   have hi : i < sg := by have := (List.getElem?_eq_some_iff.mp hk).1; simpa using this
   have hl : (cs.map cG).length < 16777216 := by rw [List.length_map, hp]; omega
   refine ⟨_, _, rfl, .inl ?_, y / (2 * n), cs ++ [(y / 2 % n, 1 - y % 2 * 2)], some (.d (.int k)), by simp [hp], fun c hc => ?_, rfl⟩
   ·have hl' : cs.length < 16777216 := by omega
    simp [pR, tW, cK, gJ, hn, h2n, h2n', cG, hl']
   ·rcases List.mem_append.mp hc with z | z
    ·exact hg c z
    ·rw [List.mem_singleton.mp z]
     refine ⟨Int.emod_nonneg _ (by omega), Int.emod_lt_of_pos _ hn, ?_⟩
     simp only; omega)
 rw [List.length_range] at hp
 have key : ∀ e : Int, 0 <= e -> e < n + 2 -> ∃ t : Tn, (eIf (e1 asB (e2 dGe (rV 0) (rV 1))) (e2 dIx (eL (d6 (aB (eC (.str "by")) (aB (eC (.str "out")) aL)))) (e2 dSub (rV 0) (rV 1))) (eV 0)) [some (.d (.int e)), some (.d (.int n))] = .ok t.d /\ t.good n := fun e h0 h1 => by
  by_cases h : n <= e
  ·obtain rfl | rfl : e = n \/ e = n + 1 := by omega
   ·exact ⟨.w "by", by simp [Tn.d], .inl rfl⟩
   ·exact ⟨.w "out", by simp [Tn.d, show n + 1 - n = 1 by omega, show n <= n + 1 by omega], .inr rfl⟩
  ·exact ⟨.n e, by simp [Tn.d, h], h0, by omega⟩
 obtain ⟨t0, e0, g0⟩ := key (x % (n + 2)) (Int.emod_nonneg _ (by omega)) (Int.emod_lt_of_pos _ hn3)
 obtain ⟨t1, e1', g1⟩ := key (y % (n + 2)) (Int.emod_nonneg _ (by omega)) (Int.emod_lt_of_pos _ hn3)
 have hc : compL (stN 0) eS (eIf (e1 asB (e2 dGe (rV 0) (rV 1))) (e2 dIx (eL (d6 (aB (eC (.str "by")) (aB (eC (.str "out")) aL)))) (e2 dSub (rV 0) (rV 1))) (eV 0)) [none, some (.d (.int n))] [.int (x % (n + 2)), .int (y % (n + 2))] = .ok [t0.d, t1.d] := by
  simp only [compL, yS, List.set_cons_zero, pE, R.bind_ok, aAX, R.noEx_ok, if_true, e0, e1']
 have hi : ∀ a b : PyData, cJ (.list [a, b]) = .ok [a, b] := fun a b => kD (by simp)
 refine ⟨⟨t0, cs, t1⟩, ?_, ⟨g0, g1, hg⟩, hp⟩
 unfold eP i9
 simp only [iW, List.map_cons, List.map_nil, List.cons_append, List.nil_append, List.length_cons, List.length_nil, List.replicate, cT, qN, wY, lD, jV, jU, List.getElem?_cons_zero, List.getElem?_cons_succ, R.bind_ok, tT, cK hn3, gJ hn3 hn4, List.set_cons_zero, List.set_cons_succ, l5, qM, nN, qO, oS, hr]
 simp only [Nat.zero_le, if_true, R.bind_ok, List.set_cons_zero, List.set_cons_succ, List.getElem?_cons_zero, List.getElem?_cons_succ, hr, hf]
 simp only [yQ, aGW, nN, lD, jV, jU, List.getElem?_cons_zero, List.getElem?_cons_succ, R.bind_ok, tT, cK hn3, yR, mP, List.set_cons_zero, List.set_cons_succ]
 simp [hi, fJ, hc, bU, cK hn3]
theorem aEG {ns : List Int} {at' : Int} {n sg : Nat} (hat : 0 <= at') (h1 : 1 <= n) (h2 : n <= 1000) (s1 : 1 <= sg) (s3 : sg <= 3) : ∃ rs : List Rw, dY [.d (d3 ns), .d (.int at'), .d (.int n), .d (.int sg)] = .ok (.d (cM rs)) /\ Mach rs sg /\ rs.length = n := by
 have hr := eH (n := n) (by omega)
 have hn : (0 : Int) < (n : Int) := by omega
 obtain ⟨ρ', hf, rs, u5, u6, hp, hg, rfl⟩ := fQ (fs := stN 5) (fb := (sIf (jO (e1 asB (e2 dLt (e2 bE (rV 1) (rV 5)) (e1 dLen (rV 0)))) (e1 asB (e2 dEq (e2 dMod (e2 dIx (rV 0) (eC (.int 0))) (eC (.int 2))) (eC (.int 1))))) (eI 4 (eA (aZ 3 eP (aB (vD (e2 dIx (rV 0) (e2 bE (rV 1) (rV 5)))) (aB (vV 2) (aB (vV 3) aL)))))) (aH (bO 6 (aZ 3 dN (aB (vD (e2 dMod (eA (aZ 2 bM (aB (vV 0) (aB (vD (e2 bE (rV 1) (rV 5))) aL)))) (eC (.int 2147483647)))) (aB (vV 2) (aB (vV 3) aL)))))
 (aH (sIf (jO (e1 asB (e2 dEq (rV 5) (eC (.int 0)))) (jO (e1 asB (e1 (gQ "str") (e2 dIx (rV 6) (eC (.int 0))))) (e1 asB (e2 dGt (e2 dMod (e2 dDiv (eA (aZ 2 bM (aB (vV 0) (aB (vV 1) aL)))) (eC (.int 8))) (eC (.int 8))) (eC (.int 0)))))) (bO 6 (vD (e2 bE (cV (aB (e2 dMod (e2 dDiv (eA (aZ 2 bM (aB (vV 0) (aB (vV 1) aL)))) (eC (.int 64))) (rV 2)) aL)) (eSl dSl (rV 6) (oSo (eC (.int 1))) oNo)))) sNx)
 (eI 4 (eV 6))))))
  (d := fun i : Nat => .int (i : Int)) (xs := List.range n) (ρ := [some (.d (d3 ns)), some (.d (.int at')), some (.d (.int n)), some (.d (.int sg)), some (.l []), none, none])
  (fun i ρ => ∃ (rs : List Rw) (u5 u6 : Option A), rs.length = i /\ (∀ r ∈ rs, r.good n /\ r.c.length = sg) /\ ρ = [some (.d (d3 ns)), some (.d (.int at')), some (.d (.int n)), some (.d (.int sg)), some (.l (rs.map bU)), u5, u6]) ⟨[], none, none, rfl, fun c hc => by simp at hc, rfl⟩
  (fun i k ρ hk hρ => by
   obtain ⟨rs, u5, u6, hp, hg, rfl⟩ := hρ
   have hi : i < n := by have := (List.getElem?_eq_some_iff.mp hk).1; simpa using this
   have hl : rs.length < 16777216 := by omega
   have snoc : ∀ r : Rw, r.good n /\ r.c.length = sg -> ∀ x ∈ rs ++ [r], x.good n /\ x.c.length = sg := fun r hr x hx => by
    rcases List.mem_append.mp hx with z | z
    ·exact hg x z
    ·rw [List.mem_singleton.mp z]; exact hr
   obtain ⟨v, hv⟩ := nR ns (at' + k)
   obtain ⟨r, hr, gr⟩ := aA0 (v % 2147483647) (n := (n : Int)) (sg := sg) hn (by omega)
   obtain ⟨v2, hv2⟩ := nR ns at'
   have hsl : ∀ r : Rw, dSl (bU r) (some 1) none = .ok (.tuple [.tuple (r.c.map cG), r.r.d]) := fun r => by
    unfold bU
    rw [aND (by unfold HT.sIx; simp)]
    unfold pI HT.sIx
    simp
   have put : ∀ (u5 u6 : Option A) (r : Rw), (eI 4 (eV 6)) [some (.d (d3 ns)), some (.d (.int at')), some (.d (.int n)), some (.d (.int sg)), some (.l (rs.map bU)), u5, some (.d (bU r))] = .ok (.nx [some (.d (d3 ns)), some (.d (.int at')), some (.d (.int n)), some (.d (.int sg)), some (.l ((rs ++ [r]).map bU)), u5, some (.d (bU r))]) := fun u5 u6 r => by simp [hl]
   have mixed : ∀ ρ2, ρ2 = [some (.d (d3 ns)), some (.d (.int at')), some (.d (.int n)), some (.d (.int sg)), some (.l (rs.map bU)), some (.d (.int k)), u6] -> ∃ r2 : Rw, (r2.good n /\ r2.c.length = sg) /\ ∃ u6', (aH (bO 6 (aZ 3 dN (aB (vD (e2 dMod (eA (aZ 2 bM (aB (vV 0) (aB (vD (e2 bE (rV 1) (rV 5))) aL)))) (eC (.int 2147483647)))) (aB (vV 2) (aB (vV 3) aL)))))
     (aH (sIf (jO (e1 asB (e2 dEq (rV 5) (eC (.int 0)))) (jO (e1 asB (e1 (gQ "str") (e2 dIx (rV 6) (eC (.int 0))))) (e1 asB (e2 dGt (e2 dMod (e2 dDiv (eA (aZ 2 bM (aB (vV 0) (aB (vV 1) aL)))) (eC (.int 8))) (eC (.int 8))) (eC (.int 0)))))) (bO 6 (vD (e2 bE (cV (aB (e2 dMod (e2 dDiv (eA (aZ 2 bM (aB (vV 0) (aB (vV 1) aL)))) (eC (.int 64))) (rV 2)) aL)) (eSl dSl (rV 6) (oSo (eC (.int 1))) oNo)))) sNx)
     (eI 4 (eV 6)))) ρ2 = .ok (.nx [some (.d (d3 ns)), some (.d (.int at')), some (.d (.int n)), some (.d (.int sg)), some (.l ((rs ++ [r2]).map bU)), some (.d (.int k)), u6']) := by
    rintro ρ2 rfl
    by_cases c1 : k = 0
    case neg =>
     exact ⟨r, gr, some (.d (bU r)), by simp [hv, cK, hr, c1, cZ, hl]⟩
    subst c1
    obtain ⟨r, hr, gr⟩ := aA0 (v2 % 2147483647) (n := (n : Int)) (sg := sg) hn (by omega)
    have hix : dIx (bU r) (.int 0) = .ok r.l.d := yU _ _
    have hty : ∃ b, gQ "str" r.l.d = .ok (.bool b) := by cases r.l <;> exact ⟨_, rfl⟩
    obtain ⟨b, hb⟩ := hty
    have hadd : bE (.tuple [.int (v2 / 64 % (n : Int))]) (.tuple [.tuple (r.c.map cG), r.r.d]) = .ok (bU ⟨.n (v2 / 64 % (n : Int)), r.c, r.r⟩) := by
     rw [aLS rfl (by simp)]; rfl
    have good2 : (⟨.n (v2 / 64 % (n : Int)), r.c, r.r⟩ : Rw).good n /\ r.c.length = sg := ⟨⟨⟨Int.emod_nonneg _ (by omega), Int.emod_lt_of_pos _ hn⟩, gr.1.2.1, gr.1.2.2⟩, gr.2⟩
    cases hbb : b with
    | false =>
     subst hbb
     exact ⟨r, gr, some (.d (bU r)), by simp [hv2, cK, hr, cZ, hix, hb, hl]⟩
    | true =>
     subst hbb
     by_cases c3 : 0 < v2 / 8 % 8
     ·refine ⟨⟨.n (v2 / 64 % (n : Int)), r.c, r.r⟩, good2, some (.d (bU ⟨.n (v2 / 64 % (n : Int)), r.c, r.r⟩)), ?_⟩
      simp [hv2, cK, cK hn, hr, cZ, hix, hb, hl, gJ, c3, hsl, hadd]
     ·exact ⟨r, gr, some (.d (bU r)), by simp [hv2, cK, hr, cZ, hix, hb, hl, gJ, c3]⟩
   obtain ⟨r2, g2, u6', hm⟩ := mixed _ rfl
   by_cases c1 : at' + (k : Int) < (ns.length : Int)
   ·obtain ⟨w0, hw0⟩ := pT (ns := ns) (i := 0) (Int.le_refl _) (by omega)
    by_cases c2 : w0 % 2 = 1
    ·obtain ⟨w1, hw1⟩ := pT (ns := ns) (i := at' + k) (by omega) c1
     obtain ⟨r3, hr3, g3⟩ := aI0 w1 (n := (n : Int)) (sg := sg) hn (by omega) (by omega)
     refine ⟨_, _, rfl, .inl ?_, rs ++ [r3], some (.d (.int k)), u6, by simp [hp], snoc r3 g3, rfl⟩
     simp [iO, c1, hw0, cK, c2, cZ, hw1, hr3, hl]
    ·refine ⟨_, _, rfl, .inl ?_, rs ++ [r2], some (.d (.int k)), u6', by simp [hp], snoc r2 g2, rfl⟩
     rw [<- hm]
     simp only [yS, List.set_cons_succ, List.set_cons_zero]
     rw [pP]
     simp only [nO, mP, lD, jV, jU, List.getElem?_cons_zero, List.getElem?_cons_succ, R.bind_ok, tT, iO, tU, pQ, c1, decide_true, if_true, hw0, cK (show (0 : Int) < 2 by decide), cZ, c2, decide_false, Bool.false_eq_true, if_false]
   ·refine ⟨_, _, rfl, .inl ?_, rs ++ [r2], some (.d (.int k)), u6', by simp [hp], snoc r2 g2, rfl⟩
    rw [<- hm]
    simp only [yS, List.set_cons_succ, List.set_cons_zero]
    rw [pP]
    simp only [nO, mP, lD, jV, jU, List.getElem?_cons_zero, List.getElem?_cons_succ, R.bind_ok, tT, iO, tU, pQ, c1, decide_false, Bool.false_eq_true, if_false])
 rw [List.length_range] at hp
 refine ⟨rs, ?_, ⟨by omega, by omega, s1, s3, fun r hr => by rw [hp]; exact hg r hr⟩, hp⟩
 unfold dY kF
 simp only [iW, List.map_cons, List.map_nil, List.cons_append, List.nil_append, List.length_cons, List.length_nil, List.replicate, cT, l5, qM, nN, R.bind_ok, Nat.zero_le, if_true, List.set_cons_zero, List.set_cons_succ, qO, oS, jV, List.getElem?_cons_zero, List.getElem?_cons_succ, hr, hf]
 simp [cM]
theorem rG (x y : Str) : (x ++ y).cps.toList = x.cps.toList ++ y.cps.toList := by
 show (x.cps ++ y.cps).toList = _
 rw [Array.toList_append]
theorem aI1 {ns : List Int} {at' : Int} {m sg : Nat} (hat : 0 <= at') (hm : m <= 1000) (s1 : 1 <= sg) (s3 : sg <= 3) : ∃ z : Str, eU [.d (d3 ns), .d (.int at'), .d (.int m), .d (.int sg)] = .ok (.d (.str z)) /\ a8 sg z.cps.toList /\ z.cps.toList.length = m := by
 have hr := eH (n := m) (by omega)
 have hn : (0 : Int) < (sg : Int) := by omega
 have abc : ∀ y : Int, ∃ c, dIx (.str "abc") (.int (y % (sg : Int))) = .ok (.str ⟨#[c]⟩) /\ bV sg c = true := fun y => by
  obtain ⟨c, h1, h2⟩ := aHS (k := y) s1 s3
  exact ⟨c, aGX (by decide) h1, h2⟩
 have two : ∃ z : Str, (bS (vD (e2 wR (eC (.str "")) (eL (dJ [none, some 0, some 1, some 3] (dD (rV 2)) (stN 0) eS (e2 dIx (eC (.str "abc")) (e2 dMod (eA (aZ 2 bM (aB (vV 1) (aB (vD (e2 bE (rV 2) (rV 0))) aL)))) (rV 3)))))))) [some (.d (d3 ns)), some (.d (.int at')), some (.d (.int m)), some (.d (.int sg)), none, none, none] = .ok (.rt (.d (.str z))) /\ a8 sg z.cps.toList /\ z.cps.toList.length = m := by
  have hc : ∀ i : Nat, ∃ c, (e2 dIx (eC (.str "abc")) (e2 dMod (eA (aZ 2 bM (aB (vV 1) (aB (vD (e2 bE (rV 2) (rV 0))) aL)))) (rV 3))) [some (.d (.int i)), some (.d (d3 ns)), some (.d (.int at')), some (.d (.int sg))] = .ok (.str ⟨#[c]⟩) /\ bV sg c = true := fun i => by
   obtain ⟨v, hv⟩ := nR ns (at' + i)
   obtain ⟨c, h1, h2⟩ := abc v
   exact ⟨c, by simp [hv, cK hn, h1], h2⟩
  have hx := Classical.skolem.mp hc
  obtain ⟨f, hf⟩ := hx
  have h1 := dM (fs := stN 0) (fe := e2 dIx (eC (.str "abc")) (e2 dMod (eA (aZ 2 bM (aB (vV 1) (aB (vD (e2 bE (rV 2) (rV 0))) aL)))) (rV 3))) (ρ0 := [none, some (.d (d3 ns)), some (.d (.int at')), some (.d (.int sg))]) (d := fun i : Nat => .int (i : Int)) (g := fun i : Nat => .str ⟨#[f i]⟩) (xs := List.range m) fun i _ => ⟨_, rfl, (hf i).1⟩
  have hst : oJ ((List.range m).map fun i : Nat => PyData.str ⟨#[f i]⟩) = some (((List.range m).map f).map one) := by
   rw [List.map_map]
   generalize List.range m = l
   induction l with
   | nil => rfl
   | cons a t ih => simp only [List.map_cons, oJ, ih]; rfl
  have hj : wR (.str "") (.list ((List.range m).map fun i : Nat => .str ⟨#[f i]⟩)) = .ok (.str ⟨((List.range m).map f).toArray⟩) := by
   show (match oJ ((List.range m).map fun i : Nat => PyData.str ⟨#[f i]⟩) with | some ys => if _ then R.ok _ else .bad | none => .bad) = _
   rw [hst]
   simp only
   rw [if_pos (by rw [aHQ, List.length_map, List.length_map, List.length_range]; show m + m * 0 <= _; omega), aHR]
  refine ⟨⟨((List.range m).map f).toArray⟩, ?_, ⟨by simp; omega, fun c hc => ?_⟩, by simp⟩
  ·simp [hr, fJ, h1, hj]
  ·simp at hc
   obtain ⟨i, _, rfl⟩ := hc
   exact (hf i).2
 obtain ⟨z2, hz2, S2, l2⟩ := two
 by_cases c1 : at' < (ns.length : Int)
 ·obtain ⟨w0, hw0⟩ := pT (ns := ns) (i := 0) (Int.le_refl _) (by omega)
  by_cases c2 : w0 % 2 = 1
  ·obtain ⟨w1, hw1⟩ := pT (ns := ns) (i := at') hat c1
   obtain ⟨ρ', hf, y, z, u6, hp, hg, rfl⟩ := fQ (fs := stN 6) (fb := aH (bO 5 (vD (e2 bE (rV 5) (e2 dIx (eC (.str "abc")) (e2 dMod (rV 4) (rV 3)))))) (bO 4 (vD (e2 dDiv (rV 4) (rV 3)))))
    (d := fun i : Nat => .int (i : Int)) (xs := List.range m) (ρ := [some (.d (d3 ns)), some (.d (.int at')), some (.d (.int m)), some (.d (.int sg)), some (.d (.int w1)), some (.d (.str "")), none])
    (fun i ρ => ∃ (y : Int) (z : Str) (u6 : Option A), z.cps.toList.length = i /\ (∀ c ∈ z.cps.toList, bV sg c = true) /\ ρ = [some (.d (d3 ns)), some (.d (.int at')), some (.d (.int m)), some (.d (.int sg)), some (.d (.int y)), some (.d (.str z)), u6]) ⟨w1, "", none, rfl, fun c hc => (nomatch (show c ∈ ([] : List Nat) from hc)), rfl⟩
    (fun i k ρ hk hρ => by
     obtain ⟨y, z, u6, hp, hg, rfl⟩ := hρ
     have hi : i < m := by have := (List.getElem?_eq_some_iff.mp hk).1; simpa using this
     obtain ⟨c, h1, h2⟩ := abc y
     have hadd : bE (.str z) (.str ⟨#[c]⟩) = .ok (.str (z ++ ⟨#[c]⟩)) := tX (by
      have : z.length = z.cps.toList.length := by simp [Str.length]
      show z.length + 1 <= _
      omega)
     refine ⟨_, _, rfl, .inl ?_, y / sg, z ++ ⟨#[c]⟩, some (.d (.int k)), by rw [rG, List.length_append, hp]; rfl, fun x hx => ?_, rfl⟩
     ·simp [cK hn, h1, hadd, gJ hn (show (sg : Int) < 18446744073709551616 by omega)]
     ·rw [rG] at hx
      rcases List.mem_append.mp hx with q | q
      ·exact hg x q
      ·have : x = c := by simpa using q
       rw [this]; exact h2)
   rw [List.length_range] at hp
   refine ⟨z, ?_, ⟨by omega, hg⟩, hp⟩
   unfold eU iD
   simp only [iW, List.map_cons, List.map_nil, List.cons_append, List.nil_append, List.length_cons, List.length_nil, List.replicate, cT, pP, nO, mP, lD, jV, jU, List.getElem?_cons_zero, List.getElem?_cons_succ, R.bind_ok, iO, tU, pQ, c1, decide_true, if_true, hw0, cK (show (0 : Int) < 2 by decide), cZ, c2, qN, wY, hw1, List.set_cons_zero, List.set_cons_succ, qO, oS, hr, hf, aIW, aNA]
  ·refine ⟨z2, ?_, S2, l2⟩
   unfold eU iD
   simp only [iW, List.map_cons, List.map_nil, List.cons_append, List.nil_append, List.length_cons, List.length_nil, List.replicate]
   rw [cT, pP]
   simp only [nO, mP, lD, jV, jU, List.getElem?_cons_zero, List.getElem?_cons_succ, R.bind_ok, iO, tU, pQ, c1, decide_true, if_true, hw0, cK (show (0 : Int) < 2 by decide), cZ, c2, decide_false, Bool.false_eq_true, if_false, aD8]
   rw [hz2]; rfl
 ·refine ⟨z2, ?_, S2, l2⟩
  unfold eU iD
  simp only [iW, List.map_cons, List.map_nil, List.cons_append, List.nil_append, List.length_cons, List.length_nil, List.replicate]
  rw [cT, pP]
  simp only [nO, mP, lD, jV, jU, List.getElem?_cons_zero, List.getElem?_cons_succ, R.bind_ok, iO, tU, pQ, c1, decide_false, Bool.false_eq_true, if_false, aD8]
  rw [hz2]; rfl
end Mc
namespace Mc
open PySem L2 PyProof.Rows Fl
end Mc
namespace Mc
open PySem L2 PyProof.Rows
def eB (rs : List Rw) (z : List Nat) (s : Int × Int) : Option ((Int × Int) ⊕ Str) :=
 match (bP rs z s).1 with
 | .w x => some (.inr x)
 | .n q => some (.inl (s.1 + (bP rs z s).2, q))
theorem walk_step {rs : List Rw} {z : List Nat} {s : Int × Int} : (∃ x, eQ rs z s = none /\ (bP rs z s).1 = .w x /\ eB rs z s = some (.inr x)) \/ ∃ s', eQ rs z s = some s' /\ eB rs z s = some (.inl s') := by
 unfold eQ eB
 cases (bP rs z s).1 with
 | w x => exact .inl ⟨x, rfl, rfl, rfl⟩
 | n q => exact .inr ⟨_, rfl, rfl⟩
end Mc
namespace Mc
open PySem L2 PyProof.Rows Fl
theorem yW : i8 "int" "str" = false := by decide
theorem yX : i8 "str" "str" = true := by decide
theorem tY {rs : List Rw} {q : Int} (h0 : 0 <= q) (h1 : q < (rs.length : Int)) : dIx (cM rs) (.int q) = .ok (bU (aV rs q)) := jW (nQ h0 (by rw [List.getElem?_map, c9 h0 h1]; rfl))
def l7 : Option (Int × Int) -> PyData
 | none => .none
 | some s => prD s
theorem lM (z : Str) : z.length = z.cps.toList.length := by simp [Str.length]
theorem yY {rs : List Rw} {sg : Nat} {z : Str} (M : Mach rs sg) (S : a8 sg z.cps.toList) {s : Int × Int} (V : g6 rs z.cps.toList s) : fM [.d (cM rs), .d (.str z), .d (prD s)] = .ok (.d (l7 (eQ rs z.cps.toList s))) := by
 obtain ⟨p, q⟩ := s
 have hr := tY V.2.2.1 V.2.2.2
 have hz : z.length <= 16777216 := by rw [lM]; have := S.1; omega
 have hl := aEC hz
 rw [lM] at hl
 generalize hL : z.cps.toList = zl at *
 unfold fM m5
 by_cases h0 : p = 0
 ·subst h0
  have hst : eQ rs zl (0, q) = match (aV rs q).l with | .w _ => none | .n q' => some (0 + 1, q') := by
   unfold eQ bP; simp only [if_true] <;> (cases (aV rs q).l <;> rfl)
  cases e : (aV rs q).l with
  | w x =>
   rw [e] at hst
   rw [hst]
   simp [prD, hr, hl, bU, cZ, e, Tn.d, yX, l7]
  | n q' =>
   rw [e] at hst
   rw [hst]
   simp [prD, hr, hl, bU, cZ, e, Tn.d, yW, l7]
 ·by_cases h1 : p = (zl.length : Int) + 1
  ·have hst : eQ rs zl (p, q) = match (aV rs q).r with | .w _ => none | .n q' => some (p + -1, q') := by
    unfold eQ bP; simp only [if_neg h0, if_pos h1] <;> (cases (aV rs q).r <;> rfl)
   have hp : (0 : Int) < p := by omega
   have hgt : (zl.length : Int) < p := by omega
   cases e : (aV rs q).r with
   | w x =>
    rw [e] at hst
    rw [hst]
    simp [prD, hr, hl, bU, cZ, e, Tn.d, yX, l7, h0, hgt, hp]
   | n q' =>
    rw [e] at hst
    rw [hst]
    simp [prD, hr, hl, bU, cZ, e, Tn.d, yW, l7, h0, hgt, hp]
    omega
  ·obtain ⟨c, a1, a2, a3⟩ := aAB S V h0 h1
   obtain ⟨cc, b1, b2, b3⟩ := xL M S V h0 h1
   have v1 := V.1
   have v2 := V.2.1
   simp only at v1 v2 a1 a3 b1 b2
   have hst : eQ rs zl (p, q) = some (p + cc.2, cc.1) := by
    unfold eQ bP; simp only [if_neg h0, if_neg h1, b2]
   have hgt : ¬ (zl.length : Int) < p := by omega
   have ix : dIx (.str z) (.int (p - 1)) = .ok (.str ⟨#[c]⟩) := aGX hz (nQ (by omega) (by rw [hL, <- a1]; congr 1; omega))
   have id := aAZ (yV M.sg3 a2)
   have ic : dIx (.tuple ((aV rs q).c.map cG)) (.int ((c - 97 : Nat) : Int)) = .ok (cG cc) := jW (gD (by rw [List.getElem?_map, <- a3, b1]; rfl))
   rw [hst]
   simp [prD, hr, hl, bU, cZ, l7, h0, hgt, ix, id, ic, cG]
theorem jB (xs : List PyData) (x : PyData) : dIx (.list (xs ++ [x])) (.int (-1)) = .ok x := qP (L2.aEZ xs x)
noncomputable def sA : Sg -> R Bool := (e1 asB (lY true 3 (e2 dIx (rV 2) (e1 dNeg (eC (.int 1))))))
noncomputable def sB : Sg -> R Fw := (aH (kK 3 (e2 dIx (rV 2) (e1 dNeg (eC (.int 1)))) (eC (.bool true)))
 (aH (bO 4 (aZ 3 fM (aB (vV 0) (aB (vV 1) (aB (vD (e2 dIx (rV 2) (e1 dNeg (eC (.int 1))))) aL)))))
 (aH (sIf (e1 asB (e2 dIs (rV 4) (eC .none))) (sFz 2 (bS (vV 2))) sNx)
 (eI 2 (eV 4)))))
theorem aCB : kX = aH (dC 2 (d6 (aB (cV (aB (eC (.int 0)) (aB (eC (.int 0)) aL))) aL))) (aH (mK 3) (aH (cD sA sB) (sFz 2 (bS (vV 2))))) := id rfl
def stρ (rs : List Rw) (z : Str) (ps : List (Int × Int)) (s : Int × Int) (u : Option A) : Sg := [some (.d (cM rs)), some (.d (.str z)), some (.l (ps.map prD ++ [prD s])), some (.m (been prD ps)), u]
theorem aLU {rs : List Rw} {z : Str} {ps : List (Int × Int)} {s : Int × Int} {u : Option A} (h : s ∈ ps) : sA (stρ rs z ps s u) = .ok false := by
 have h1 := mR qR ps s
 have h2 := (oU qQ).mpr h
 simp [sA, stρ, jB, h1, h2]
theorem aA1 {rs : List Rw} {z : Str} {ps : List (Int × Int)} {s : Int × Int} {u : Option A} (h : s ∉ ps) : sA (stρ rs z ps s u) = .ok true := by
 have h1 := mR qR ps s
 have h2 := jI qQ h
 simp [sA, stρ, jB, h1, h2]
theorem aEH (s : Int × Int) : iY (prD s) = false := id rfl
theorem aI2 {rs : List Rw} {sg : Nat} {z : Str} (M : Mach rs sg) (S : a8 sg z.cps.toList) {ps : List (Int × Int)} {s : Int × Int} {u : Option A} (V : g6 rs z.cps.toList s) (h : s ∉ ps) (hp : ps.length <= 2000000) (e : eQ rs z.cps.toList s = none) : sB (stρ rs z ps s u) = .ok (.rt (.d (.list ((ps ++ [s]).map prD)))) := by
 have h1 := mR qR ps s
 have h3 := l6 qQ h
 have h4 : (been prD ps).length <= 16777216 := by rw [kE]; omega
 have f := yY M S V
 rw [e] at f
 simp [sB, stρ, jB, h1, h3, h4, f, l7]
theorem aLV {rs : List Rw} {sg : Nat} {z : Str} (M : Mach rs sg) (S : a8 sg z.cps.toList) {ps : List (Int × Int)} {s s' : Int × Int} {u : Option A} (V : g6 rs z.cps.toList s) (h : s ∉ ps) (hp : ps.length <= 2000000) (e : eQ rs z.cps.toList s = some s') : sB (stρ rs z ps s u) = .ok (.nx (stρ rs z (ps ++ [s]) s' (some (.d (prD s'))))) := by
 have h1 := mR qR ps s
 have h3 := l6 qQ h
 have h4 : (been prD ps).length <= 16777216 := by rw [kE]; omega
 have f := yY M S V
 rw [e] at f
 have h5 : ps.length + 1 < 16777216 := by omega
 simp [sB, stρ, jB, h1, h3, h4, f, l7, aEH, h5]
def iR (rs : List Rw) (z : List Nat) (s : Int × Int) : Prop := g6 rs z s /\ ((eQ rs z s = none /\ ∃ x, (bP rs z s).1 = .w x /\ bQ (eB rs z) (0, 0) = some x) \/ ((∃ s', eQ rs z s = some s') /\ bQ (eB rs z) (0, 0) = none))
theorem zV {rs : List Rw} {sg : Nat} {z : Str} (M : Mach rs sg) (S : a8 sg z.cps.toList) : ∀ (k : Nat) (ps : List (Int × Int)) (s : Int × Int) (u : Option A), Way rs z.cps.toList ps s k -> Und2 (eB rs z.cps.toList) (0, 0) ps s ->
  aH (cD sA sB) (sFz 2 (bS (vV 2))) (stρ rs z ps s u) = .ok (.rt (.d (.list ((lA rs z.cps.toList).map prD)))) /\ ∃ ps' s', lA rs z.cps.toList = ps' ++ [s'] /\ iR rs z.cps.toList s' := by
 have hB : qE rs z.cps.toList <= 1002 * 1000 := Nat.mul_le_mul (by have := S.1; omega) M.len2
 have hin : ∀ (k : Nat) (ps : List (Int × Int)) (s : Int × Int) (u : Option A), Way rs z.cps.toList ps s k -> Und2 (eB rs z.cps.toList) (0, 0) ps s -> s ∈ ps -> aH (cD sA sB) (sFz 2 (bS (vV 2))) (stρ rs z ps s u) = .ok (.rt (.d (.list ((lA rs z.cps.toList).map prD)))) /\ ∃ ps' s', lA rs z.cps.toList = ps' ++ [s'] /\ iR rs z.cps.toList s' := by
  intro k ps s u W U hs
  refine ⟨?_, ps, s, (W.stop hs).symm, W.here, .inr ⟨?_, U.met hs⟩⟩
  ·rw [cT, iC (aLU hs), <- W.stop hs]
   simp [stρ]
  ·obtain ⟨m, r⟩ := U.back s hs
   cases r with
   | cons h t =>
    rcases walk_step (rs := rs) (z := z.cps.toList) (s := s) with ⟨x, _, _, e⟩ | ⟨s', e, _⟩
    · rw [e] at h; cases h
    · exact ⟨s', e⟩
 intro k
 induction k with
 | zero =>
  intro ps s u W U
  by_cases hs : s ∈ ps
  ·exact hin 0 ps s u W U hs
  ·obtain ⟨j, hj⟩ := W.more hs; omega
 | succ k ih =>
  intro ps s u W U
  by_cases hs : s ∈ ps
  ·exact hin _ ps s u W U hs
  ·have hp : ps.length <= 2000000 := by have := W.num; omega
   rcases walk_step (rs := rs) (z := z.cps.toList) (s := s) with ⟨x, e, e2, e3⟩ | ⟨s', e, e3⟩
   ·refine ⟨?_, ps, s, (W.ends hs e).symm, W.here, .inl ⟨e, x, e2, U.outs e3⟩⟩
    rw [cT, mQ (aA1 hs) (aI2 M S W.here hs hp e), <- W.ends hs e]; rfl
   ·have := ih (ps ++ [s]) s' (some (.d (prD s'))) (W.next M S hs e) (U.next hs e3)
    rw [cT] at this ⊢
    rw [kR (aA1 hs) (aLV M S W.here hs hp e)]
    exact this
theorem aF0 {rs : List Rw} {sg : Nat} {z : Str} (M : Mach rs sg) (S : a8 sg z.cps.toList) : gW [.d (cM rs), .d (.str z)] = .ok (.d (.list ((lA rs z.cps.toList).map prD))) /\ ∃ ps' s', lA rs z.cps.toList = ps' ++ [s'] /\ iR rs z.cps.toList s' := by
 have h := zV M S (qE rs z.cps.toList) [] (0, 0) none (Way.start M) Und2.start
 refine ⟨?_, h.2⟩
 unfold gW
 rw [aCB]
 simp only [iW, cT, l5, qM, yQ, aIV, jU, nN, R.bind_ok, List.length_cons, List.length_nil, Nat.reduceAdd, Nat.reduceLeDiff, if_true, List.map_cons, List.map_nil, List.cons_append, List.nil_append, List.replicate, List.set_cons_zero, List.set_cons_succ, r0]
 have e := h.1
 rw [cT] at e
 simp only [stρ, List.map_nil, List.nil_append, been, prD] at e
 rw [e]; rfl
noncomputable def jX (rs : List Rw) (z : List Nat) : Str := (bQ (eB rs z) (0, 0)).getD "ever"
theorem aLW {rs : List Rw} {sg : Nat} {z : Str} (M : Mach rs sg) (S : a8 sg z.cps.toList) : gY [.d (cM rs), .d (.str z)] = .ok (.d (.str (jX rs z.cps.toList))) := by
 obtain ⟨h, ps, s, e, V, q⟩ := aF0 M S
 have f := yY M S V
 rw [e, List.map_append, List.map_cons, List.map_nil] at h
 have hr := tY V.2.2.1 V.2.2.2
 unfold gY m6 jX
 obtain ⟨p, r⟩ := s
 rcases q with ⟨q1, x, q2, q3⟩ | ⟨⟨s', q1⟩, q3⟩
 ·rw [q1] at f
  rw [q3]
  have hw : (if 0 < p then (aV rs r).r else (aV rs r).l) = .w x := by
   unfold bP at q2
   simp only at q2
   by_cases h0 : p = 0
   ·rw [if_pos h0] at q2; rw [if_neg (by omega)]; exact q2
   ·rw [if_neg h0] at q2
    have v1 := V.1
    simp only at v1
    rw [if_pos (by omega)]
    by_cases h1 : p = (z.cps.toList.length : Int) + 1
    · rw [if_pos h1] at q2; exact q2
    · rw [if_neg h1] at q2; cases q2
  simp only [prD] at f hr h
  by_cases hp : 0 < p
  ·rw [if_pos hp] at hw
   simp [h, jB, prD, f, l7, hr, bU, hp, hw, Tn.d]
  ·rw [if_neg hp] at hw
   simp [h, jB, prD, f, l7, hr, bU, hp, hw, Tn.d]
 ·rw [q1] at f
  rw [q3]
  simp only [prD] at f hr h
  simp [h, jB, prD, f, l7]
end Mc
namespace Mc
open PySem L2 PyProof.Rows Fl
end Mc
namespace Mc
open PySem L2 PyProof.Rows
section
variable {S T O Q : Type}
structure Gates (st : S -> Option (S ⊕ O)) (sub : S -> Option (S ⊕ Q)) (ext : Q -> T ⊕ O) (g : T -> S) (ent : T -> S ⊕ O) (Dom : S -> Prop) (TV : T -> Prop) : Prop where
 step : ∀ s, Dom s -> (∃ s', sub s = some (.inl s') /\ st s = some (.inl s') /\ Dom s') \/ (∃ e t, sub s = some (.inr e) /\ ext e = .inl t /\ st s = some (.inl (g t)) /\ TV t) \/ ∃ e o, sub s = some (.inr e) /\ ext e = .inr o /\ st s = some (.inr o)
 gate : ∀ t, TV t -> (∃ s, ent t = .inl s /\ st (g t) = some (.inl s) /\ Dom s) \/ ∃ o, ent t = .inr o /\ st (g t) = some (.inr o)
noncomputable def gst (sub : S -> Option (S ⊕ Q)) (ext : Q -> T ⊕ O) (ent : T -> S ⊕ O) (ev : O) (t : T) : Option (T ⊕ O) := match ent t with
 | .inr o => some (.inr o)
 | .inl s => match bQ sub s with
  | none => some (.inr ev)
  | some e => some (ext e)
variable {st : S -> Option (S ⊕ O)} {sub : S -> Option (S ⊕ Q)} {ext : Q -> T ⊕ O} {g : T -> S} {ent : T -> S ⊕ O} {Dom : S -> Prop} {TV : T -> Prop}
theorem gS {st : S -> Option (S ⊕ O)} {s : S} {o : O} {n : Nat} (h : Ex st n s o) : bQ st s = some o := ((jC st s) o).mpr ⟨n, h⟩
theorem fE {st : S -> Option (S ⊕ O)} {s : S} {o : O} (h : bQ st s = some o) : ∃ n, Ex st n s o := ((jC st s) o).mp h
theorem Gates.in1 (G : Gates st sub ext g ent Dom TV) {k : Nat} {s : S} {e : Q} (d : Dom s) (h : Ex sub k s e) : (∀ t, ext e = .inl t -> Rc st (k + 1) s (g t) /\ TV t) /\ ∀ o, ext e = .inr o -> Ex st k s o := by
 induction h with
 | out h =>
  rcases G.step _ d with ⟨s', a, _⟩ | ⟨e', t, a, b, c, tv⟩ | ⟨e', o, a, b, c⟩
  ·rw [h] at a; cases a
  ·rw [h] at a; cases a
   exact ⟨fun t' z => by rw [b] at z; cases z; exact ⟨.cons c .nil, tv⟩, fun o z => by rw [b] at z; cases z⟩
  ·rw [h] at a; cases a
   exact ⟨fun t' z => (by rw [b] at z; cases z), fun o' z => by rw [b] at z; cases z; exact .out c⟩
 | go h t ih =>
  rcases G.step _ d with ⟨s', a, b, c⟩ | ⟨e', t, a, b, c, tv⟩ | ⟨e', o, a, b, c⟩
  ·rw [h] at a; cases a
   obtain ⟨i1, i2⟩ := ih c
   exact ⟨fun t' z => ⟨.cons b (i1 t' z).1, (i1 t' z).2⟩, fun o z => .go b (i2 o z)⟩
  ·rw [h] at a; cases a
  ·rw [h] at a; cases a
theorem Gates.in2 (G : Gates st sub ext g ent Dom TV) {n : Nat} {s : S} {o : O} (d : Dom s) (h : Ex st n s o) : ∃ k e, Ex sub k s e /\ ((∃ t n', ext e = .inl t /\ TV t /\ n' < n /\ Ex st n' (g t) o) \/ ext e = .inr o) := by
 induction h with
 | out h =>
  rcases G.step _ d with ⟨s', a, b, _⟩ | ⟨e', t, a, b, c, tv⟩ | ⟨e', o', a, b, c⟩
  ·rw [h] at b; cases b
  ·rw [h] at c; cases c
  ·rw [h] at c; cases c
   exact ⟨0, e', .out a, .inr b⟩
 | go h t ih =>
  rcases G.step _ d with ⟨s', a, b, c⟩ | ⟨e', t', a, b, c, tv⟩ | ⟨e', o', a, b, c⟩
  ·rw [h] at b; cases b
   obtain ⟨k, e, q, r⟩ := ih c
   refine ⟨k + 1, e, .go a q, r.imp ?_ id⟩
   rintro ⟨t, n', x1, x2, x3, x4⟩
   exact ⟨t, n', x1, x2, by omega, x4⟩
  ·rw [h] at c; cases c
   exact ⟨0, e', .out a, .inl ⟨t', _, b, tv, by omega, t⟩⟩
  ·rw [h] at c; cases c
theorem Gates.fwd (G : Gates st sub ext g ent Dom TV) (ev : O) : ∀ (n : Nat) {t : T} {o : O}, TV t -> Ex st n (g t) o -> ∃ m, Ex (gst sub ext ent ev) m t o := by
 intro n
 induction n using Nat.strongRecOn with
 | ind n ih =>
  intro t o tv h
  rcases G.gate t tv with ⟨s, a, b, c⟩ | ⟨o', a, b⟩
  ·cases h with
   | out h => rw [b] at h; cases h
   | go h q =>
    rw [b] at h; cases h
    obtain ⟨k, e, x, y⟩ := G.in2 c q
    have hr := gS x
    rcases y with ⟨t', n', y1, y2, y3, y4⟩ | y
    ·obtain ⟨m, hm⟩ := ih n' (by omega) y2 y4
     exact ⟨m + 1, .go (by unfold gst; rw [a]; simp only; rw [hr]; simp only; rw [y1]) hm⟩
    ·exact ⟨0, .out (by unfold gst; rw [a]; simp only; rw [hr]; simp only; rw [y])⟩
  ·cases h with
   | out h => rw [b] at h; cases h; exact ⟨0, .out (by unfold gst; rw [a])⟩
   | go h q => rw [b] at h; cases h
theorem Gates.bwd (G : Gates st sub ext g ent Dom TV) {ev : O} {m : Nat} {t : T} {o : O} (h : Ex (gst sub ext ent ev) m t o) (tv : TV t) : o = ev \/ ∃ n, Ex st n (g t) o := by
 induction h with
 | @out t o h =>
  rcases G.gate t tv with ⟨s, a, b, c⟩ | ⟨o', a, b⟩
  ·unfold gst at h
   rw [a] at h
   simp only at h
   cases e : bQ sub s with
   | none => rw [e] at h; cases h; exact .inl rfl
   | some x =>
    rw [e] at h
    have h' : ext x = .inr o := Option.some.inj h
    obtain ⟨k, hk⟩ := fE e
    exact .inr ⟨k + 1, .go b ((G.in1 c hk).2 o h')⟩
  ·unfold gst at h
   rw [a] at h
   cases h
   exact .inr ⟨0, .out b⟩
 | @go t t' o n h q ih =>
  rcases G.gate t tv with ⟨s, a, b, c⟩ | ⟨o', a, b⟩
  ·unfold gst at h
   rw [a] at h
   simp only at h
   cases e : bQ sub s with
   | none => rw [e] at h; cases h
   | some x =>
    rw [e] at h
    have h' : ext x = .inl t' := Option.some.inj h
    obtain ⟨k, hk⟩ := fE e
    obtain ⟨r1, r2⟩ := (G.in1 c hk).1 t' h'
    rcases ih r2 with z | ⟨n', z⟩
    · exact .inl z
    · exact .inr ⟨n' + (k + 1) + 1, .go b (r1.to z)⟩
  ·unfold gst at h
   rw [a] at h
   cases h
theorem Gates.eq (G : Gates st sub ext g ent Dom TV) (ev : O) {t : T} (tv : TV t) : (bQ st (g t)).getD ev = (bQ (gst sub ext ent ev) t).getD ev := by
 cases e : bQ st (g t) with
 | some o =>
  obtain ⟨n, h⟩ := fE e
  obtain ⟨m, hm⟩ := G.fwd ev n tv h
  rw [gS hm]
 | none =>
  cases e2 : bQ (gst sub ext ent ev) t with
  | none => rfl
  | some o =>
   obtain ⟨m, hm⟩ := fE e2
   rcases G.bwd hm tv with z | ⟨n, z⟩
   · rw [z]; rfl
   · rw [gS z] at e; cases e
theorem Gates.inn (G : Gates st sub ext g ent Dom TV) (ev : O) {s : S} (d : Dom s) : (bQ st s).getD ev = match bQ sub s with
  | none => ev
  | some e => match ext e with
   | .inr o => o
   | .inl t => (bQ (gst sub ext ent ev) t).getD ev := by
 cases e : bQ sub s with
 | none =>
  cases e2 : bQ st s with
  | none => rfl
  | some o =>
   obtain ⟨n, h⟩ := fE e2
   obtain ⟨k, x, hx, _⟩ := G.in2 d h
   rw [gS hx] at e; cases e
 | some x =>
  obtain ⟨k, hk⟩ := fE e
  obtain ⟨i1, i2⟩ := G.in1 d hk
  simp only
  cases q : ext x with
  | inr o => simp only; rw [gS (i2 o q)]; rfl
  | inl t =>
   simp only
   obtain ⟨r1, r2⟩ := i1 t q
   rw [<- G.eq ev r2]
   cases e2 : bQ st (g t) with
   | some o =>
    obtain ⟨n, h⟩ := fE e2
    rw [gS (r1.to h)]
   | none =>
    cases e3 : bQ st s with
    | none => rfl
    | some o =>
     obtain ⟨n, h⟩ := fE e3
     obtain ⟨n', _, z⟩ := r1.ex h
     rw [gS z] at e2; cases e2
end
def fC : Str := "ever"
def cS (rs : List Rw) (z : List Nat) (s : Int × Int) : Option ((Int × Int) ⊕ Tn) :=
 match (bP rs z s).1 with
 | .w x => some (.inr (.w x))
 | .n q => if s.1 + (bP rs z s).2 <= (z.length : Int) then some (.inl (s.1 + (bP rs z s).2, q)) else some (.inr (.n q))
def m7 (rs : List Rw) (z : List Nat) (s : Int × Int) : Prop := 0 <= s.1 /\ s.1 <= (z.length : Int) /\ 0 <= s.2 /\ s.2 < (rs.length : Int)
def cQ (rs : List Rw) (q : Int) : Prop := 0 <= q /\ q < (rs.length : Int)
theorem m7.valid {rs : List Rw} {z : List Nat} {s : Int × Int} (h : m7 rs z s) : g6 rs z s := ⟨h.1, by have := h.2.1; omega, h.2.2⟩
noncomputable def dO (rs : List Rw) (z : List Nat) (s : Int × Int) : Tn := (bQ (cS rs z) s).getD (.w fC)
noncomputable def c7 (rs : List Rw) (z : List Nat) (q : Int) : Tn := dO rs z ((z.length : Int), q)
theorem aEI {rs : List Rw} {z : List Nat} {c : Nat} {s : Int × Int} (h0 : 0 <= s.1) (h : s.1 <= (z.length : Int)) : bP rs (z ++ [c]) s = bP rs z s := by
 unfold bP
 by_cases h1 : s.1 = 0
 ·rw [if_pos h1, if_pos h1]
 ·rw [if_neg h1, if_neg h1, if_neg (by rw [List.length_append, List.length_singleton]; omega), if_neg (by omega)]
  have e : (z ++ [c]).getD (s.1.toNat - 1) 97 = z.getD (s.1.toNat - 1) 97 := by
   rw [List.getD_eq_getElem?_getD, List.getD_eq_getElem?_getD, List.getElem?_append_left (by omega)]
  rw [e]
theorem beg_cell {rs : List Rw} {sg : Nat} {z : List Nat} {s : Int × Int} (M : Mach rs sg) (S : a8 sg z) (V : m7 rs z s) : (∃ x, (bP rs z s).1 = .w x /\ s.1 = 0) \/ ∃ q, (bP rs z s).1 = .n q /\ cQ rs q /\ 0 <= s.1 + (bP rs z s).2 /\ s.1 + (bP rs z s).2 <= (z.length : Int) + 1 := by
 cases e : (bP rs z s).1 with
 | w x =>
  refine .inl ⟨x, rfl, ?_⟩
  by_cases h0 : s.1 = 0
  ·exact h0
  ·unfold bP at e
   rw [if_neg h0, if_neg (by have := V.2.1; omega)] at e
   cases e
 | n q =>
  have hv : g6 rs z (s.1 + (bP rs z s).2, q) := n4 M S V.valid (by unfold eQ; rw [e])
  exact .inr ⟨q, rfl, ⟨hv.2.2.1, hv.2.2.2⟩, hv.1, hv.2.1⟩
def aLX (e : Tn) : Int ⊕ Tn := match e with
 | .n q => .inl q
 | .w x => .inr (.w x)
def aLY (e : Tn) : Int ⊕ Str := match e with
 | .n q => .inl q
 | .w x => .inr x
def yZ (rs : List Rw) (z : List Nat) (c : Nat) (q : Int) : (Int × Int) ⊕ Tn :=
 if ((aV rs q).c.getD (c - 97) (0, 0)).2 = 1 then .inr (.n ((aV rs q).c.getD (c - 97) (0, 0)).1) else .inl ((z.length : Int), ((aV rs q).c.getD (c - 97) (0, 0)).1)
theorem wC {rs : List Rw} {z : List Nat} {c : Nat} {q : Int} : bP rs (z ++ [c]) ((z.length : Int) + 1, q) = (.n ((aV rs q).c.getD (c - 97) (0, 0)).1, ((aV rs q).c.getD (c - 97) (0, 0)).2) := by
 unfold bP
 have e : (z ++ [c]).getD (((z.length : Int) + 1).toNat - 1) 97 = c := by
  rw [show ((z.length : Int) + 1).toNat - 1 = z.length by omega, List.getD_eq_getElem?_getD, List.getElem?_append_right (Nat.le_refl _)]; simp
 rw [if_neg (show ¬ (z.length : Int) + 1 = 0 by omega), if_neg (by simp only [List.length_append, List.length_singleton]; omega)]
 simp only
 rw [e]
theorem wD {rs : List Rw} {sg : Nat} {z : List Nat} {c : Nat} (M : Mach rs sg) (S : a8 sg z) (hc : bV sg c = true) : Gates (cS rs (z ++ [c])) (cS rs z) aLX (fun q => ((z.length : Int) + 1, q)) (yZ rs z c) (m7 rs z) (cQ rs) where
 step := fun s V => by
  have ce := aEI (rs := rs) (c := c) V.1 V.2.1
  have hl : ((z ++ [c]).length : Int) = (z.length : Int) + 1 := by rw [List.length_append, List.length_singleton]; omega
  rcases beg_cell M S V with ⟨x, e, h0⟩ | ⟨q, e, rv, h1, h2⟩
  ·refine .inr (.inr ⟨.w x, .w x, ?_, rfl, ?_⟩)
   ·unfold cS; rw [e]
   ·unfold cS; rw [ce, e]
  ·by_cases h3 : s.1 + (bP rs z s).2 <= (z.length : Int)
   ·refine .inl ⟨(s.1 + (bP rs z s).2, q), ?_, ?_, h1, h3, rv⟩
    · unfold cS; rw [e]; simp only; rw [if_pos h3]
    · unfold cS; rw [ce, e]; simp only; rw [if_pos (by rw [hl]; omega)]
   ·refine .inr (.inl ⟨.n q, q, ?_, rfl, ?_, rv⟩)
    · unfold cS; rw [e]; simp only; rw [if_neg h3]
    · unfold cS; rw [ce, e]; simp only; rw [if_pos (by rw [hl]; omega), show s.1 + (bP rs z s).2 = (z.length : Int) + 1 by omega]
 gate := fun q rv => by
  have hl : ((z ++ [c]).length : Int) = (z.length : Int) + 1 := by rw [List.length_append, List.length_singleton]; omega
  have hr := List.mem_of_getElem? (c9 rv.1 rv.2)
  obtain ⟨_, cg⟩ := nM M hr (show c - 97 < sg by have := of_decide_eq_true hc; omega)
  obtain ⟨g1, g2, g3⟩ := cg
  rcases g3 with g3 | g3
  ·refine .inr ⟨.n _, by unfold yZ; rw [if_pos g3], ?_⟩
   unfold cS; rw [wC]; simp only; rw [if_neg (by rw [hl, g3]; omega)]
  ·refine .inl ⟨((z.length : Int), ((aV rs q).c.getD (c - 97) (0, 0)).1), by unfold yZ; rw [if_neg (by rw [g3]; decide)], ?_, ?_⟩
   ·unfold cS; rw [wC]; simp only; rw [if_pos (by rw [hl, g3]; omega), g3, show (z.length : Int) + 1 + -1 = z.length by omega]
   ·exact ⟨by show (0 : Int) <= z.length; omega, Int.le_refl _, g1, g2⟩
def eD (rs : List Rw) (bk : Int -> Tn) (c : Nat) (q : Int) : Option (Int ⊕ Tn) :=
 if ((aV rs q).c.getD (c - 97) (0, 0)).2 = 1 then some (.inr (.n ((aV rs q).c.getD (c - 97) (0, 0)).1)) else match bk ((aV rs q).c.getD (c - 97) (0, 0)).1 with
  | .n r => some (.inl r)
  | .w x => some (.inr (.w x))
noncomputable def onR (rs : List Rw) (bk : Int -> Tn) (c : Nat) (t : Tn) : Tn := match t with
 | .w x => .w x
 | .n q => (bQ (eD rs bk c) q).getD (.w fC)
theorem aEJ {rs : List Rw} {z : List Nat} {c : Nat} : gst (cS rs z) aLX (yZ rs z c) (.w fC) = eD rs (c7 rs z) c := by
 funext q
 unfold gst yZ eD c7 dO
 by_cases h : ((aV rs q).c.getD (c - 97) (0, 0)).2 = 1
 ·rw [if_pos h, if_pos h]
 ·rw [if_neg h, if_neg h]
  simp only
  cases bQ (cS rs z) ((z.length : Int), ((aV rs q).c.getD (c - 97) (0, 0)).1) with
  | none => rfl
  | some e => cases e <;> rfl
theorem jJ {rs : List Rw} {sg : Nat} {z : List Nat} {c : Nat} (M : Mach rs sg) (S : a8 sg z) (hc : bV sg c = true) {q : Int} (rv : cQ rs q) : c7 rs (z ++ [c]) q = onR rs (c7 rs z) c (.n q) := by
 have h := (wD M S hc).eq (.w fC) rv
 rw [aEJ] at h
 unfold c7 dO onR
 rw [show ((z ++ [c]).length : Int) = (z.length : Int) + 1 by rw [List.length_append, List.length_singleton]; omega]
 exact h
theorem beg0 {rs : List Rw} {sg : Nat} (M : Mach rs sg) (z : List Nat) : m7 rs z (0, 0) := ⟨Int.le_refl _, by show (0 : Int) <= z.length; omega, Int.le_refl _, by have := M.len; show (0 : Int) < rs.length; omega⟩
theorem wE {rs : List Rw} {sg : Nat} {z : List Nat} {c : Nat} (M : Mach rs sg) (S : a8 sg z) (hc : bV sg c = true) : dO rs (z ++ [c]) (0, 0) = onR rs (c7 rs z) c (dO rs z (0, 0)) := by
 have h := (wD M S hc).inn (.w fC) (beg0 M z)
 rw [aEJ] at h
 unfold dO
 rw [h]
 cases bQ (cS rs z) (0, 0) with
 | none => rfl
 | some e => cases e <;> rfl
def fF (rs : List Rw) (bk : Int -> Tn) (q : Int) : Option (Int ⊕ Str) := match (aV rs q).r with
 | .w x => some (.inr x)
 | .n q' => match bk q' with
  | .n r => some (.inl r)
  | .w x => some (.inr x)
noncomputable def wbR (rs : List Rw) (bk : Int -> Tn) (t : Tn) : Str := match t with
 | .w x => x
 | .n q => (bQ (fF rs bk) q).getD fC
def y6 (rs : List Rw) (z : List Nat) (q : Int) : (Int × Int) ⊕ Str := match (aV rs q).r with
 | .w x => .inr x
 | .n q' => .inl ((z.length : Int), q')
theorem wF {rs : List Rw} {z : List Nat} {q : Int} : bP rs z ((z.length : Int) + 1, q) = ((aV rs q).r, -1) := by
 unfold bP
 rw [if_neg (show ¬ (z.length : Int) + 1 = 0 by omega), if_pos rfl]
theorem aCC {rs : List Rw} {sg : Nat} {z : List Nat} (M : Mach rs sg) (S : a8 sg z) : Gates (eB rs z) (cS rs z) aLY (fun q => ((z.length : Int) + 1, q)) (y6 rs z) (m7 rs z) (cQ rs) where
 step := fun s V => by
  rcases beg_cell M S V with ⟨x, e, h0⟩ | ⟨q, e, rv, h1, h2⟩
  ·refine .inr (.inr ⟨.w x, x, ?_, rfl, ?_⟩)
   ·unfold cS; rw [e]
   ·unfold eB; rw [e]
  ·by_cases h3 : s.1 + (bP rs z s).2 <= (z.length : Int)
   ·refine .inl ⟨(s.1 + (bP rs z s).2, q), ?_, ?_, h1, h3, rv⟩
    · unfold cS; rw [e]; simp only; rw [if_pos h3]
    · unfold eB; rw [e]
   ·refine .inr (.inl ⟨.n q, q, ?_, rfl, ?_, rv⟩)
    · unfold cS; rw [e]; simp only; rw [if_neg h3]
    · unfold eB; rw [e]; simp only; rw [show s.1 + (bP rs z s).2 = (z.length : Int) + 1 by omega]
 gate := fun q rv => by
  have hr := List.mem_of_getElem? (c9 rv.1 rv.2)
  have hg := (M.row _ hr).1.2.1
  cases e : (aV rs q).r with
  | w x => exact .inr ⟨x, by unfold y6; rw [e], by unfold eB; rw [wF]; simp only; rw [e]⟩
  | n q' =>
   rw [e] at hg
   refine .inl ⟨((z.length : Int), q'), by unfold y6; rw [e], ?_, ⟨by show (0 : Int) <= z.length; omega, Int.le_refl _, hg.1, hg.2⟩⟩
   unfold eB; rw [wF]; simp only; rw [e]; simp only; rw [show (z.length : Int) + 1 + -1 = z.length by omega]
theorem aLZ {rs : List Rw} {z : List Nat} : gst (cS rs z) aLY (y6 rs z) fC = fF rs (c7 rs z) := by
 funext q
 unfold gst y6 fF c7 dO
 cases (aV rs q).r with
 | w x => rfl
 | n q' =>
  simp only
  cases bQ (cS rs z) ((z.length : Int), q') with
  | none => rfl
  | some e => cases e <;> rfl
theorem aF1 {rs : List Rw} {sg : Nat} {z : List Nat} (M : Mach rs sg) (S : a8 sg z) : (bQ (eB rs z) (0, 0)).getD fC = wbR rs (c7 rs z) (dO rs z (0, 0)) := by
 have h := (aCC M S).inn fC (beg0 M z)
 rw [aLZ] at h
 rw [h]
 unfold dO wbR
 cases bQ (cS rs z) (0, 0) with
 | none => rfl
 | some e => cases e <;> rfl
theorem qS {rs : List Rw} {q : Int} : dO rs [] (0, q) = (aV rs q).l := by
 have hc : bP rs [] (0, q) = ((aV rs q).l, 1) := by unfold bP; rw [if_pos rfl]
 unfold dO
 cases e : (aV rs q).l with
 | w x => rw [mF (o := .w x) (by unfold cS; rw [hc, e])]; rfl
 | n q' =>
  rw [mF (o := .n q') (by unfold cS; rw [hc, e]; simp only; rw [if_neg (by decide)])]; rfl
end Mc
namespace Mc
open PySem L2 PyProof.Rows Fl
def gZ (f : Tn) (bk : List Tn) : PyData := .tuple [f.d, .tuple (bk.map Tn.d)]
def bkF (bk : List Tn) (q : Int) : Tn := bk.getD q.toNat (.w fC)
def tnV (m : Nat) : Tn -> Prop
 | .n i => 0 <= i /\ i < (m : Int)
 | .w _ => True
theorem iP (a b : Int) (h : PyData.int a = PyData.int b) : a = b := by injection h
theorem iQ (ps : List Int) (q : Int) : eY (.int q) ((been PyData.int ps).map (·.1)) = true := by
 unfold eY
 rw [pS, Bool.or_eq_true]
 refine .inr ?_
 rw [show aBX (.int q) = true from rfl, Bool.true_and, List.all_eq_true]
 intro x hx
 obtain ⟨i, _, rfl⟩ := List.mem_map.mp hx
 rfl
theorem vF (i : Int) : dX [.d (.int i)] = .ok (.d (.bool false)) := by
 unfold dX mL
 simp [yW]
theorem vG (x : Str) : dX [.d (.str x)] = .ok (.d (.bool true)) := by
 unfold dX mL
 simp [yX]
def fR (rs : List Rw) (k : Nat) : PyData := .list (rs.map fun r => cG (ck k r))
theorem y7 {rs : List Rw} {k : Nat} {q : Int} (h0 : 0 <= q) (h1 : q < (rs.length : Int)) : dIx (fR rs k) (.int q) = .ok (cG (ck k (aV rs q))) := qP (nQ h0 (by rw [List.getElem?_map, c9 h0 h1]; rfl))
theorem aG0 {bk : List Tn} {q : Int} (h0 : 0 <= q) (h1 : q < (bk.length : Int)) : dIx (.tuple (bk.map Tn.d)) (.int q) = .ok (bkF bk q).d := by
 refine jW (nQ h0 ?_)
 have hq : q.toNat < bk.length := by omega
 rw [List.getElem?_map, List.getElem?_eq_getElem hq]
 unfold bkF
 rw [List.getD_eq_getElem?_getD, List.getElem?_eq_getElem hq]; rfl
theorem qT {m : Nat} {bk : List Tn} (hv : ∀ t ∈ bk, tnV m t) (q : Int) : tnV m (bkF bk q) := by
 unfold bkF
 rw [List.getD_eq_getElem?_getD]
 cases e : bk[q.toNat]? with
 | none => exact trivial
 | some t => exact hv t (List.mem_of_getElem? e)
noncomputable def oT : Sg -> R Bool := (mZ (e1 asB (eA (aZ 1 dX (aB (vV 2) aL)))))
noncomputable def oB : Sg -> R Fw := (aH (sIf (e1 asB (lY false 3 (eV 2))) (bS (vD (eC (.str "ever")))) sNx)
 (aH (kK 3 (eV 2) (eC (.bool true)))
 (aH (bO 4 (vD (e2 dIx (rV 1) (rV 2))))
 (aH (sIf (e1 asB (e2 dEq (e2 dIx (rV 4) (eC (.int 1))) (eC (.int 1)))) (bS (vD (e2 dIx (rV 4) (eC (.int 0))))) sNx)
 (bO 2 (vD (e2 dIx (rV 0) (e2 dIx (rV 4) (eC (.int 0))))))))))
theorem aL0 : pN = aH (mK 3) (aH (cD oT oB) (bS (vV 2))) := id rfl
noncomputable def oρ (rs : List Rw) (bk : List Tn) (k : Nat) (t : Tn) (ps : List Int) (u : Option A) : Sg := [some (.d (.tuple (bk.map Tn.d))), some (.d (fR rs k)), some (.d t.d), some (.m (been PyData.int ps)), u]
theorem aL1 {rs : List Rw} {bk : List Tn} {k : Nat} {x : Str} {ps : List Int} {u : Option A} : oT (oρ rs bk k (.w x) ps u) = .ok false := by
 simp [oT, oρ, Tn.d, vG]
theorem aF2 {rs : List Rw} {bk : List Tn} {k : Nat} {q : Int} {ps : List Int} {u : Option A} : oT (oρ rs bk k (.n q) ps u) = .ok true := by
 simp [oT, oρ, Tn.d, vF]
theorem aL2 {rs : List Rw} {bk : List Tn} {k : Nat} {q : Int} {ps : List Int} {u : Option A} (h : q ∈ ps) : oB (oρ rs bk k (.n q) ps u) = .ok (.rt (.d (.str "ever"))) := by
 have h1 := iQ ps q
 have h2 := (oU iP).mpr h
 simp [oB, oρ, Tn.d, h1, h2]
theorem aL3 {rs : List Rw} {bk : List Tn} {k : Nat} {q : Int} {ps : List Int} {u : Option A} (h : q ∉ ps) (rv : cQ rs q) (hp : ps.length <= 16777216) (hc : (ck k (aV rs q)).2 = 1) : oB (oρ rs bk k (.n q) ps u) = .ok (.rt (.d (.int (ck k (aV rs q)).1))) := by
 have h1 := iQ ps q
 have h2 := jI iP h
 have h4 : (been PyData.int ps).length <= 16777216 := by rw [kE]; exact hp
 have hi := y7 (k := k) rv.1 rv.2
 simp [oB, oρ, Tn.d, h1, h2, h4, hi, cG, cZ, hc]
theorem aNE {rs : List Rw} {bk : List Tn} {k : Nat} {q : Int} {ps : List Int} {u : Option A} (h : q ∉ ps) (rv : cQ rs q) (hp : ps.length <= 16777216) (hc : (ck k (aV rs q)).2 ≠ 1) (h0 : 0 <= (ck k (aV rs q)).1) (hl : (ck k (aV rs q)).1 < (bk.length : Int)) : oB (oρ rs bk k (.n q) ps u) = .ok (.nx (oρ rs bk k (bkF bk (ck k (aV rs q)).1) (ps ++ [q]) (some (.d (cG (ck k (aV rs q))))))) := by
 have h1 := iQ ps q
 have h2 := jI iP h
 have h3 := l6 iP h
 have h4 : (been PyData.int ps).length <= 16777216 := by rw [kE]; exact hp
 have hi := y7 (k := k) rv.1 rv.2
 have hb := aG0 h0 hl
 simp [oB, oρ, Tn.d, h1, h2, h3, h4, hi, cG, cZ, hc, hb]
theorem qU {m : Nat} {l : List Int} (hn : l.Nodup) (hv : ∀ q ∈ l, 0 <= q /\ q < (m : Int)) : l.length <= m :=
 vW (fun q : Int => q.toNat) m l hn (fun q hq => by have := hv q hq; show q.toNat < m; omega) (fun a ha b hb e => by
  have h1 := hv a ha
  have h2 := hv b hb
  have e' : a.toNat = b.toNat := e
  omega)
theorem nS {rs : List Rw} {bk : Int -> Tn} {c : Nat} {q : Int} : eD rs bk c q = if (ck (c - 97) (aV rs q)).2 = 1 then some (.inr (.n (ck (c - 97) (aV rs q)).1)) else match bk (ck (c - 97) (aV rs q)).1 with
 | .n r => some (.inl r)
 | .w x => some (.inr (.w x)) := id rfl
theorem aI3 {rs : List Rw} {sg c : Nat} {bk : List Tn} (M : Mach rs sg) (hc : bV sg c = true) (hb : bk.length = rs.length) (hv : ∀ t ∈ bk, tnV rs.length t) {q0 : Int} : ∀ (n : Nat) (ps : List Int) (q : Int) (u : Option A), Und2 (eD rs (bkF bk) c) q0 ps q -> (∀ p ∈ ps, cQ rs p) -> cQ rs q -> rs.length + 1 <= ps.length + n ->
  aH (cD oT oB) (bS (vV 2)) (oρ rs bk (c - 97) (.n q) ps u) = .ok (.rt (.d ((bQ (eD rs (bkF bk) c) q0).getD (.w fC)).d)) := by
 intro n
 induction n with
 | zero =>
  intro ps q u U pv rv hn
  have := qU U.nd pv
  omega
 | succ n ih =>
  intro ps q u U pv rv hn
  rw [cT]
  by_cases hs : q ∈ ps
  ·rw [mQ aF2 (aL2 hs), U.met hs]; rfl
  ·have hl : ps.length <= rs.length := qU U.nd pv
   have hp : ps.length <= 16777216 := by have := M.len2; omega
   have hr := List.mem_of_getElem? (c9 rv.1 rv.2)
   obtain ⟨_, cg⟩ := nM M hr (show c - 97 < sg by have := of_decide_eq_true hc; omega)
   have cg : lR rs.length (ck (c - 97) (aV rs q)) := cg
   obtain ⟨g1, g2, g3⟩ := cg
   by_cases h1 : (ck (c - 97) (aV rs q)).2 = 1
   ·have st : eD rs (bkF bk) c q = some (.inr (.n (ck (c - 97) (aV rs q)).1)) := by unfold eD; exact if_pos h1
    rw [mQ aF2 (aL3 hs rv hp h1), U.outs st]; rfl
   ·rw [kR aF2 (aNE hs rv hp h1 g1 (by rw [hb]; exact g2))]
    have gd := qT hv (ck (c - 97) (aV rs q)).1
    cases e : bkF bk (ck (c - 97) (aV rs q)).1 with
    | w x =>
     have st : eD rs (bkF bk) c q = some (.inr (.w x)) := by rw [nS, if_neg h1, e]
     rw [iC aL1, U.outs st]
     simp [oρ, Tn.d]
    | n r =>
     rw [e] at gd
     have st : eD rs (bkF bk) c q = some (.inl r) := by rw [nS, if_neg h1, e]
     have := ih (ps ++ [q]) r (some (.d (cG (ck (c - 97) (aV rs q))))) (U.next hs st) (fun p hp => by
      rcases List.mem_append.mp hp with z | z
      · exact pv p z
      · rw [List.mem_singleton.mp z]; exact rv) gd (by rw [List.length_append, List.length_singleton]; omega)
     rw [cT] at this
     exact this
theorem aL4 {rs : List Rw} {sg c : Nat} {bk : List Tn} (M : Mach rs sg) (hc : bV sg c = true) (hb : bk.length = rs.length) (hv : ∀ t ∈ bk, tnV rs.length t) {t : Tn} (ht : tnV rs.length t) : iB [.d (.tuple (bk.map Tn.d)), .d (fR rs (c - 97)), .d t.d] = .ok (.d (onR rs (bkF bk) c t).d) := by
 have key : aH (cD oT oB) (bS (vV 2)) (oρ rs bk (c - 97) t [] none) = .ok (.rt (.d (onR rs (bkF bk) c t).d)) := by
  cases t with
  | w x =>
   rw [cT, iC aL1]
   simp [oρ, Tn.d, onR]
  | n q => exact aI3 M hc hb hv (rs.length + 1) [] q none Und2.start (fun p hp => by simp at hp) ht (by simp)
 unfold iB
 rw [aL0]
 simp only [iW, cT, r0, R.bind_ok, List.length_cons, List.length_nil, Nat.reduceAdd, List.map_cons, List.map_nil, List.cons_append, List.nil_append, List.replicate, List.set_cons_zero, List.set_cons_succ]
 rw [cT] at key
 simp only [oρ, been, List.map_nil] at key
 rw [key]; rfl
theorem aNF {rs : List Rw} {sg c : Nat} {bk : List Tn} (M : Mach rs sg) (hc : bV sg c = true) (hb : bk.length = rs.length) (hv : ∀ t ∈ bk, tnV rs.length t) {t : Tn} (ht : tnV rs.length t) :
  gR [.d (gZ t bk), .d (fR rs (c - 97))] = .ok (.d (gZ (onR rs (bkF bk) c t) ((List.range rs.length).map fun q : Nat => onR rs (bkF bk) c (.n (q : Int))))) := by
 have h := dM (fs := stN 0) (fe := eA (aZ 3 iB (aB (vD (e2 dIx (rV 1) (eC (.int 1)))) (aB (vV 2) (aB (vV 0) aL))))) (ρ0 := [none, some (.d (gZ t bk)), some (.d (fR rs (c - 97)))]) (d := fun i : Nat => .int (i : Int)) (g := fun i : Nat => (onR rs (bkF bk) c (.n (i : Int))).d) (xs := List.range rs.length) fun i hi => by
  refine ⟨_, rfl, ?_⟩
  have := aL4 M hc hb hv (t := .n (i : Int)) ⟨by omega, by have := List.mem_range.mp hi; omega⟩
  have e : (Tn.n (i : Int)).d = .int i := rfl
  rw [e] at this
  simp [gZ, this]
 have hr := eH (n := rs.length) (by have := M.len2; omega)
 have hl : dLen (fR rs (c - 97)) = .ok (.int rs.length) := by unfold fR; rw [kQ, List.length_map]
 have h1 := aL4 M hc hb hv ht
 have h0 : dIx (gZ t bk) (.int 0) = .ok t.d := yU _ _
 have h2 : dIx (gZ t bk) (.int 1) = .ok (.tuple (bk.map Tn.d)) := aLO _ _ _
 unfold gR rZ
 simp [h0, h2, h1, hl, hr, fJ, h]
 unfold gZ
 rw [List.map_map]; rfl
noncomputable def cW (rs : List Rw) (z : List Nat) : PyData := gZ (dO rs z (0, 0)) ((List.range rs.length).map fun q : Nat => c7 rs z (q : Int))
theorem kG {rs : List Rw} {sg : Nat} {z : List Nat} (M : Mach rs sg) (S : a8 sg z) {s : Int × Int} (V : m7 rs z s) : tnV rs.length (dO rs z s) := by
 unfold dO
 cases e : bQ (cS rs z) s with
 | none => exact trivial
 | some t =>
  obtain ⟨n, h⟩ := fE e
  show tnV rs.length t
  clear e
  induction h with
  | @out s o h =>
   unfold cS at h
   rcases beg_cell M S V with ⟨x, e, h0⟩ | ⟨q, e, rv, h1, h2⟩
   ·rw [e] at h; cases h; exact trivial
   ·rw [e] at h
    simp only at h
    split at h
    · cases h
    · cases h; exact rv
  | @go s s' o n h t ih =>
   refine ih ?_
   unfold cS at h
   rcases beg_cell M S V with ⟨x, e, h0⟩ | ⟨q, e, rv, h1, h2⟩
   ·rw [e] at h; cases h
   ·rw [e] at h
    simp only at h
    split at h
    · rename_i h3; cases h; exact ⟨h1, h3, rv⟩
    · cases h
theorem tZ {rs : List Rw} {z : List Nat} {q : Nat} (h : q < rs.length) : m7 rs z ((z.length : Int), (q : Int)) := ⟨by show (0 : Int) <= z.length; omega, Int.le_refl _, by show (0 : Int) <= q; omega, by show (q : Int) < rs.length; omega⟩
theorem vH {rs : List Rw} {z : List Nat} {q : Int} (rv : cQ rs q) : bkF ((List.range rs.length).map fun q : Nat => c7 rs z (q : Int)) q = c7 rs z q := by
 have hq : q.toNat < rs.length := by have := rv.1; have := rv.2; omega
 unfold bkF
 rw [List.getD_eq_getElem?_getD, List.getElem?_map, List.getElem?_range hq]
 show c7 rs z ((q.toNat : Nat) : Int) = _
 rw [show ((q.toNat : Nat) : Int) = q by have := rv.1; omega]
theorem y8 {rs : List Rw} {sg c : Nat} (M : Mach rs sg) (hc : bV sg c = true) {bk bk' : Int -> Tn} (h : ∀ q, cQ rs q -> bk q = bk' q) (hg : ∀ q, cQ rs q -> tnV rs.length (bk q)) {t : Tn} (ht : tnV rs.length t) : onR rs bk c t = onR rs bk' c t := by
 cases t with
 | w x => rfl
 | n q =>
  have st : ∀ q, cQ rs q -> eD rs bk c q = eD rs bk' c q := fun q rv => by
   unfold eD
   have hr := List.mem_of_getElem? (c9 rv.1 rv.2)
   obtain ⟨_, cg⟩ := nM M hr (show c - 97 < sg by have := of_decide_eq_true hc; omega)
   rw [h _ ⟨cg.1, cg.2.1⟩]
  have nx : ∀ q q', cQ rs q -> eD rs bk c q = some (.inl q') -> cQ rs q' := fun q q' rv e => by
   unfold eD at e
   have hr := List.mem_of_getElem? (c9 rv.1 rv.2)
   obtain ⟨_, cg⟩ := nM M hr (show c - 97 < sg by have := of_decide_eq_true hc; omega)
   have gd := hg _ ⟨cg.1, cg.2.1⟩
   split at e
   ·cases e
   ·split at e
    · rename_i r er; cases e; rw [er] at gd; exact gd
    · cases e
  have a1 : ∀ n q o, cQ rs q -> Ex (eD rs bk c) n q o -> Ex (eD rs bk' c) n q o := by
   intro n q o rv hx
   induction hx with
   | @out q o e => exact .out (by rw [<- st q rv]; exact e)
   | @go q q' o n e t ih => exact .go (by rw [<- st q rv]; exact e) (ih (nx q q' rv e))
  have a2 : ∀ n q o, cQ rs q -> Ex (eD rs bk' c) n q o -> Ex (eD rs bk c) n q o := by
   intro n q o rv hx
   induction hx with
   | @out q o e => exact .out (by rw [st q rv]; exact e)
   | @go q q' o n e t ih =>
    have e' : eD rs bk c q = some (.inl q') := by rw [st q rv]; exact e
    exact .go e' (ih (nx q q' rv e'))
  show (bQ (eD rs bk c) q).getD (.w fC) = (bQ (eD rs bk' c) q).getD (.w fC)
  rw [rF (st := eD rs bk c) (st' := eD rs bk' c) (s := q) (s' := q) fun o => ⟨fun ⟨n, x⟩ => ⟨n, a1 n q o ht x⟩, fun ⟨n, x⟩ => ⟨n, a2 n q o ht x⟩⟩]
theorem y9 {rs : List Rw} {sg : Nat} {z : List Nat} {c : Nat} (M : Mach rs sg) (S : a8 sg z) (hc : bV sg c = true) : gR [.d (cW rs z), .d (fR rs (c - 97))] = .ok (.d (cW rs (z ++ [c]))) := by
 have hl : ((List.range rs.length).map fun q : Nat => c7 rs z (q : Int)).length = rs.length := by simp
 have hv : ∀ t ∈ (List.range rs.length).map fun q : Nat => c7 rs z (q : Int), tnV rs.length t := fun t ht => by
  obtain ⟨q, hq, rfl⟩ := List.mem_map.mp ht
  exact kG M S (tZ (List.mem_range.mp hq))
 have hg : ∀ q, cQ rs q -> tnV rs.length (bkF ((List.range rs.length).map fun q : Nat => c7 rs z (q : Int)) q) := fun q rv => qT hv q
 unfold cW
 rw [aNF M hc hl hv (kG M S (beg0 M z))]
 rw [y8 M hc (fun q rv => vH rv) hg (kG M S (beg0 M z)), wE M S hc]
 have em : ((List.range rs.length).map fun q : Nat => onR rs (bkF ((List.range rs.length).map fun q : Nat => c7 rs z (q : Int))) c (.n (q : Int))) = (List.range rs.length).map fun q : Nat => c7 rs (z ++ [c]) (q : Int) := ?_
 ·rw [em]
 refine List.map_congr_left fun q hq => ?_
 have rv : cQ rs (q : Int) := ⟨by omega, by have := List.mem_range.mp hq; omega⟩
 rw [y8 M hc (fun q rv => vH rv) hg (t := .n (q : Int)) rv, jJ M S hc rv]
end Mc
namespace Mc
open PySem L2 PyProof.Rows Fl
theorem t4 {rs : List Rw} {sg : Nat} (M : Mach rs sg) : cJ (cM rs) = .ok (rs.map bU) := r6 (by have := M.len2; rw [List.length_map]; omega)
theorem aF3 {α : Type} (rs : List Rw) (f : Rw -> α) : rs.map f = (List.range rs.length).map fun q : Nat => f (aV rs (q : Int)) := by
 apply List.ext_getElem
 ·simp
 ·intro i h1 h2
  have hi : i < rs.length := by simpa using h1
  simp only [List.getElem_map, List.getElem_range]
  congr 1
  unfold aV
  rw [List.getD_eq_getElem?_getD, show ((i : Int)).toNat = i by omega, List.getElem?_eq_getElem hi]; rfl
theorem aNG {rs : List Rw} {sg : Nat} (M : Mach rs sg) : fY [.d (cM rs)] = .ok (.d (cW rs [])) := by
 have h := dM (fs := stN 0) (fe := e2 dIx (rV 0) (eC (.int 0))) (ρ0 := [none]) (d := bU) (g := fun r : Rw => r.l.d) (xs := rs) fun r _ => ⟨_, rfl, by simp [bU]⟩
 have e1 : cW rs [] = .tuple [(aV rs 0).l.d, .tuple (rs.map fun r => r.l.d)] := by
  unfold cW gZ
  rw [qS, aF3 rs, List.map_map]
  congr 4
  refine List.map_congr_left fun q _ => ?_
  show (dO rs [] (((([] : List Nat).length : Nat) : Int), (q : Int))).d = _
  rw [show ((([] : List Nat).length : Nat) : Int) = 0 by rfl, qS]
 obtain ⟨r, t, hrs, _⟩ := M.cons
 have h0 : dIx (.tuple (rs.map fun r => r.l.d)) (.int 0) = .ok (aV rs 0).l.d := by
  subst hrs
  exact yU _ _
 rw [e1]
 unfold fY jS
 simp [t4 M, fJ, h, h0]
theorem aL5 {rs : List Rw} {sg : Nat} (M : Mach rs sg) (ρ0 : Sg) (h : fJ [none, some 0] ρ0 = [none, some (.d (cM rs))]) :
  compL (stN 0) eS (eA (aZ 2 iN (aB (vV 1) (aB (vV 0) aL)))) (fJ [none, some 0] ρ0) ((List.range sg).map fun i : Nat => .int (i : Int)) = .ok ((List.range sg).map (fR rs)) := by
 rw [h]
 refine dM fun k hk => ⟨_, rfl, ?_⟩
 have := aIZ M (List.mem_range.mp hk)
 simp [this]
 rfl
end Mc
namespace Mc
open PySem L2 PyProof.Rows Fl
end Mc
namespace Mc
open PySem L2 PyProof.Rows Fl
theorem aL6 (i j : Int) : dNe (.int i) (.int j) = .ok (.bool (!decide (i = j))) := by rw [aED (lE i) (lE j), aEF]
end Mc
namespace Mc
open PySem L2 PyProof.Rows Fl
end Mc
namespace Fl
open PySem L2 PyProof.Rows
@[simp] theorem aOR (i : Nat) (f : Sg -> R (List (PyData × PyData))) (ρ : Sg) : wV i f ρ = (f ρ).bind fun kvs => (hX [] kvs).bind fun res => .ok (.nx (ρ.set i (some (.m res)))) := id rfl
@[simp] theorem aPC (ρ : Sg) : aB5 ρ = .ok [] := id rfl
@[simp] theorem aOS (f g : Sg -> R PyData) (r : Sg -> R (List (PyData × PyData))) (ρ : Sg) : wU f g r ρ = (f ρ).bind fun x => (g ρ).bind fun y => (r ρ).bind fun t => .ok ((x, y) :: t) := id rfl
@[simp] theorem aNU (i : Nat) (f g : Sg -> R PyData) (ρ : Sg) : aK8 i f g ρ = match ρ[i]? with | some (some (.m kvs)) => (f ρ).bind fun k => (g ρ).bind fun y => if eY k (kvs.map (·.1)) = true then .ok ((jQ kvs k).getD y) else .bad | _ => .bad := id rfl
end Fl
namespace Mc
open PySem L2 PyProof.Rows Fl
end Mc
namespace Mc
open PySem L2 PyProof.Rows Fl
theorem zA {w : Str} (h : w = "by" \/ w = "out" \/ w = "ever") : SeqAt.shaped (.str w) = true := by rcases h with rfl | rfl | rfl <;> decide +kernel
theorem aNH {w : Str} (h : w = "by" \/ w = "out" \/ w = "ever") : dNe (.str w) (.str w) = .ok (.bool false) := by
 rw [aED (zA h) (zA h), aHN]; rfl
end Mc
namespace Mc
open PySem L2 PyProof.Rows Fl
end Mc
namespace Fl
open PySem L2 PyProof.Rows
theorem aI4 (i : Nat) (j : Option Nat) (n : Nat) (G : List A -> R A) (f : Sg -> R (List A)) (cl : List Str) (fs : Sg -> R Fw) (ρ : Sg) : yG i j n G f cl fs ρ = match f ρ with
 | .ok as => if as.length = n then (match G as with
  | .bad => .bad
  | .ok a => .ok (.nx (putO j a ρ))
  | .ex e => if cl.contains e.c = true then (fs (ρ.set i (some (.x e)))).bind fun w => .ok (aFT i w) else .bad) else .bad
 | _ => .bad := id rfl
theorem aL7 (i : Nat) (cs : List Str) (g : Str) (ρ : Sg) : eXF i cs g ρ = match ρ[i]? with
 | some (some (.x e)) => if cs.contains e.c = true then (match e.fs.lookup g with | some d => .ok d | none => .bad) else .bad
 | _ => .bad := id rfl
theorem aI5 (i : Nat) (ρ : Sg) : aFT i (.nx ρ) = .nx (ρ.set i none) := id rfl
end Fl
namespace Mc
open PySem L2 PyProof.Rows Fl
@[simp] theorem aPD (m i : Nat) (f : Sg -> R (List PyData)) (ρ : Sg) : yL m i f ρ = match ρ[i]? with | some (some (.g k n G)) => (f ρ).bind fun ds => if k <= m /\ ds.length = n then G ds else .bad | _ => .bad := id rfl
@[simp] theorem aOT (m i : Nat) (f : Sg -> R (List PyData)) (ρ : Sg) : tO m i f ρ = match ρ[i]? with | some (some (.g k n G)) => (f ρ).bind fun ds => if k <= m /\ ds.length = n then (match G ds with | .ok d => if qL d = true then .ok d else .bad | _ => .bad) else .bad | _ => .bad := id rfl
def iE (fs : List PyData) : List (PyData × PyData) := fs.zipIdx.map fun p => (p.1, .int (p.2 : Int))
theorem sC (fs : List PyData) : (iE fs).map (·.1) = fs := by
 unfold iE
 rw [List.map_map]
 show fs.zipIdx.map Prod.fst = fs
 exact List.zipIdx_map_fst 0 fs
theorem aI6 (fs : List PyData) : (iE fs).length = fs.length := by unfold iE; rw [List.length_map, List.length_zipIdx]
theorem sD {fs : List PyData} {x : PyData} (hx : lT x = true) (h : ∀ y ∈ fs, lT y = true) : eY x ((iE fs).map (·.1)) = true := by
 unfold eY
 rw [sC, hx, Bool.true_and, Bool.or_eq_true, List.all_eq_true]
 exact .inl h
theorem aA2 {fs : List PyData} {x : PyData} : gI (iE fs) x = true ↔ x ∈ fs := by rw [rX, sC]
theorem zB {fs : List PyData} {x : PyData} (h : x ∉ fs) : gI (iE fs) x = false := by
 cases q : gI (iE fs) x with
 | false => rfl
 | true => exact absurd (aA2.mp q) h
theorem aI7 {fs : List PyData} {x : PyData} (h : x ∉ fs) : putM (iE fs) x (.int (fs.length : Int)) = iE (fs ++ [x]) := by
 unfold putM
 rw [zB h, if_neg (by decide)]
 unfold iE
 rw [List.zipIdx_append, List.map_append]
 simp
theorem aA3 {fs : List PyData} {x : PyData} (h : x ∈ fs) : ∃ i : Nat, jQ (iE fs) x = some (.int (i : Int)) /\ fs[i]? = some x := by
 unfold jQ
 cases e : (iE fs).find? fun p => decide (p.1 = x) with
 | none =>
  rw [List.find?_eq_none] at e
  rw [<- sC fs, List.mem_map] at h
  obtain ⟨p, hp, e2⟩ := h
  exact absurd (decide_eq_true e2) (e p hp)
 | some p =>
  have h1 := List.find?_some e
  have h2 := List.mem_of_find?_eq_some e
  unfold iE at h2
  obtain ⟨⟨y, i⟩, hy, rfl⟩ := List.mem_map.mp h2
  refine ⟨i, rfl, ?_⟩
  have h1 : y = x := of_decide_eq_true h1
  rw [<- h1]
  exact List.mk_mem_zipIdx_iff_getElem?.mp hy
structure Srch where
 after : PyData -> List PyData
 x0 : PyData
 good : Nat -> PyData -> Prop
 lim : Nat
 k1 : Nat
 k2 : Nat
 G : List PyData -> R PyData
 D : List PyData -> R PyData
structure Srch.ok (S : Srch) : Prop where
 g0 : S.good 0 S.x0
 gs : ∀ i x, S.good i x -> i <= S.lim -> ∀ y ∈ S.after x, S.good (i + 1) y
 up : ∀ i j x, i <= j -> S.good i x -> S.good j x
 few : ∀ xs : List PyData, xs.Nodup -> (∀ x ∈ xs, ∃ i, S.good i x) -> xs.length <= S.lim
 key : ∀ i x, S.good i x -> lT x = true
 hk1 : S.k1 <= 12
 hk2 : S.k2 <= 12
 hG : ∀ i x, i <= S.lim -> S.good i x -> S.G [x] = .ok (.list (S.after x)) /\ (S.after x).length <= 16777216
 hD : ∀ (fs : List PyData) (i : Int), fs.length <= S.lim -> S.D [.list fs, .int i] = .ok (.bool false)
 hl : S.lim <= 16000000
noncomputable def rhF : Sg -> R Fw := (aH (sIf (e1 asB (lY true 4 (eV 7))) (aH (kK 4 (eV 7) (e1 dLen (rV 3)))
 (eI 3 (eV 7))) sNx)
 (eI 6 (tM 4 (eV 7))))
noncomputable def rhT : Sg -> R Bool := (jO (e1 asB (e2 dLt (e1 dLen (rV 5)) (e1 dLen (rV 3)))) (mZ (e1 asB (tO 12 2 (aB (rV 3) (aB (e1 dLen (rV 5)) aL))))))
noncomputable def rhB : Sg -> R Fw := (aH (dC 6 (d6 aL))
 (aH (gA (e1 cJ (yL 12 1 (aB (e2 dIx (rV 3) (e1 dLen (rV 5))) aL))) (stN 7) rhF)
 (eI 5 (e1 dTup (rV 6)))))
theorem aL8 : pM = aH (dC 3 (d6 (aB (eV 0) aL))) (aH (wV 4 (wU (eV 0) (eC (.int 0)) aB5)) (aH (dC 5 (d6 aL)) (aH (cD rhT rhB) (sFz 5 (sFz 3 (bS (vD (cV (aB (eV 3) (aB (eV 5) aL))))))))) ) := id rfl
def jY (fs : List PyData) (js : List Nat) (ys : List PyData) : Prop := js.length = ys.length /\ ∀ (c : Nat) (y : PyData), ys[c]? = some y -> ∃ j, js[c]? = some j /\ fs[j]? = some y
def iF (js : List Nat) : PyData := .tuple (js.map fun j : Nat => .int (j : Int))
noncomputable def rhρ (S : Srch) (fs : List PyData) (gs : List (List Nat)) (u v : Option A) : Sg := [some (.d S.x0), some (.g S.k1 1 S.G), some (.g S.k2 2 S.D), some (.l fs), some (.m (iE fs)), some (.l (gs.map iF)), u, v]
theorem jY.mono {fs fs' : List PyData} {js : List Nat} {ys : List PyData} (h : jY fs js ys) (hp : fs <+: fs') : jY fs' js ys := ⟨h.1, fun c y e => by
 obtain ⟨j, h1, h2⟩ := h.2 c y e
 obtain ⟨t, rfl⟩ := hp
 refine ⟨j, h1, ?_⟩
 rw [List.getElem?_append_left (by rcases Nat.lt_or_ge j fs.length with h | h; exact h; rw [List.getElem?_eq_none h] at h2; cases h2)]
 exact h2⟩
structure Fnd (S : Srch) (fs : List PyData) : Prop where
 nd : fs.Nodup
 gd : ∀ (i : Nat) (x : PyData), fs[i]? = some x -> S.good i x
theorem Fnd.len {S : Srch} (O : S.ok) {fs : List PyData} (h : Fnd S fs) : fs.length <= S.lim := O.few fs h.nd fun x hx => by
 obtain ⟨i, hi⟩ := List.getElem?_of_mem hx
 exact ⟨i, h.gd i x hi⟩
theorem Fnd.key {S : Srch} (O : S.ok) {fs : List PyData} (h : Fnd S fs) : ∀ x ∈ fs, lT x = true := fun x hx => by
 obtain ⟨i, hi⟩ := List.getElem?_of_mem hx
 exact O.key _ _ (h.gd i x hi)
theorem Fnd.snoc {S : Srch} {fs : List PyData} {y : PyData} (h : Fnd S fs) (hy : y ∉ fs) (hg : S.good fs.length y) : Fnd S (fs ++ [y]) := by
 refine ⟨?_, fun i x e => ?_⟩
 ·rw [List.nodup_append]
  exact ⟨h.nd, by simp, fun a ha b hb => by rw [List.mem_singleton.mp hb]; rintro rfl; exact hy ha⟩
 ·by_cases hi : i < fs.length
  ·rw [List.getElem?_append_left hi] at e
   exact h.gd i x e
  ·rw [List.getElem?_append_right (by omega)] at e
   have : i - fs.length = 0 := by
    rcases Nat.eq_zero_or_pos (i - fs.length) with z | z
    · exact z
    · rw [List.getElem?_eq_none (by simp; omega)] at e; cases e
   rw [this] at e
   cases e
   rw [show i = fs.length by omega]; exact hg
theorem aL9 {S : Srch} (O : S.ok) {fs : List PyData} {gs : List (List Nat)} {x : PyData} {v : Option A} (F : Fnd S fs) (hx : fs[gs.length]? = some x) : ∃ fs' js v', kU (stN 7) rhF (S.after x) (rhρ S fs gs (some (.l [])) v) = .ok (.nx (rhρ S fs' gs (some (.l (js.map fun j : Nat => .int (j : Int)))) v')) /\ fs <+: fs' /\ Fnd S fs' /\ jY fs' js (S.after x) := by
 have hgl : gs.length < fs.length := by
  rcases Nat.lt_or_ge gs.length fs.length with h | h
  ·exact h
  ·rw [List.getElem?_eq_none h] at hx; cases hx
 have hfl := F.len O
 have hgx := F.gd _ _ hx
 have ha := (O.hG _ _ (by omega) hgx).2
 obtain ⟨ρ', q1, q2⟩ := fQ (fs := stN 7) (fb := rhF) (d := id) (xs := S.after x) (ρ := rhρ S fs gs (some (.l [])) v)
  (fun i ρ => ∃ fs' js v', ρ = rhρ S fs' gs (some (.l (js.map fun j : Nat => .int (j : Int)))) v' /\ fs <+: fs' /\ Fnd S fs' /\ jY fs' js ((S.after x).take i)) ⟨fs, [], v, rfl, List.prefix_refl _, F, by simp, fun c y e => by simp at e⟩ fun i y ρ hy zz0 => by
  obtain ⟨fs', js, v', e, hp, F', R⟩ := zz0
  have hl' := F'.len O
  have hOl := O.hl
  have hjl : js.length = i := by
   have hi : i < (S.after x).length := by
    rcases Nat.lt_or_ge i (S.after x).length with h | h
    ·exact h
    ·rw [List.getElem?_eq_none h] at hy; cases hy
   rw [R.1, List.length_take]; omega
  have hi2 : i < (S.after x).length := by
   rcases Nat.lt_or_ge i (S.after x).length with h | h
   ·exact h
   ·rw [List.getElem?_eq_none h] at hy; cases hy
  have hgy : S.good (gs.length + 1) y := O.gs _ _ hgx (by omega) y (List.mem_of_getElem? hy)
  have hky := O.key _ _ hgy
  have htk : (S.after x).take (i + 1) = (S.after x).take i ++ [y] := by rw [List.take_succ, hy]; rfl
  have hsl : ((S.after x).take i).length = i := by rw [List.length_take]; omega
  have hl3 : dLen (.list fs') = .ok (.int (fs'.length : Int)) := kQ _
  have snoc : ∀ {fs2 : List PyData} {j : Nat}, jY fs2 js ((S.after x).take i) -> fs2[j]? = some y -> jY fs2 (js ++ [j]) ((S.after x).take (i + 1)) := fun {fs2 j} R2 hj => by
   refine ⟨by rw [htk]; simp [R2.1], fun c w e => ?_⟩
   rw [htk] at e
   by_cases hc : c < i
   ·rw [List.getElem?_append_left (by omega)] at e
    obtain ⟨j', h1, h2⟩ := R2.2 c w e
    exact ⟨j', by rw [List.getElem?_append_left (by omega)]; exact h1, h2⟩
   ·rw [List.getElem?_append_right (by omega), hsl] at e
    have : c - i = 0 := by
     rcases Nat.eq_zero_or_pos (c - i) with z | z
     · exact z
     · rw [List.getElem?_eq_none (by simp; omega)] at e; cases e
    rw [this] at e
    cases e
    exact ⟨j, by rw [List.getElem?_append_right (by omega), hjl, this]; rfl, hj⟩
  by_cases hm : y ∈ fs'
  ·obtain ⟨j, g1, g2⟩ := aA3 hm
   have s1 := sD hky (F'.key O)
   have s2 := aA2.mpr hm
   refine ⟨rhρ S fs' gs (some (.l (js.map fun j : Nat => .int (j : Int)))) (some (.d y)), rhρ S fs' gs (some (.l ((js ++ [j]).map fun j : Nat => .int (j : Int)))) (some (.d y)), by rw [e]; simp [rhρ], .inl ?_, fs', js ++ [j], _, rfl, hp, F', snoc R g2⟩
   have : js.length < 16777216 := by omega
   simp [rhF, rhρ, s1, s2, g1, this]
  ·have s1 := sD hky (F'.key O)
   have s2 := zB hm
   have s3 := aI7 hm
   have F2 : Fnd S (fs' ++ [y]) := F'.snoc hm (O.up _ _ _ (by have := hp.length_le; omega) hgy)
   have t1 := sD hky (F2.key O)
   obtain ⟨j, g1, g2⟩ := aA3 (fs := fs' ++ [y]) (x := y) (by simp)
   have hil : (iE fs').length <= 16777216 := by rw [aI6]; omega
   have hfl' : fs'.length < 16777216 := by omega
   refine ⟨rhρ S fs' gs (some (.l (js.map fun j : Nat => .int (j : Int)))) (some (.d y)), rhρ S (fs' ++ [y]) gs (some (.l ((js ++ [j]).map fun j : Nat => .int (j : Int)))) (some (.d y)), by rw [e]; simp [rhρ], .inl ?_, fs' ++ [y], js ++ [j], _, rfl, hp.trans (List.prefix_append ..), F2, snoc (R.mono (List.prefix_append ..)) g2⟩
   have : js.length < 16777216 := by omega
   simp [rhF, rhρ, s1, s2, s3, hl3, hil, hfl', t1, g1, this]
 rw [List.map_id] at q1
 obtain ⟨fs', js, v', rfl, hp, F', R⟩ := q2
 rw [List.take_length] at R
 exact ⟨fs', js, v', q1, hp, F', R⟩
theorem aA4 {S : Srch} (O : S.ok) {fs : List PyData} {gs : List (List Nat)} {u v : Option A} (F : Fnd S fs) : rhT (rhρ S fs gs u v) = .ok (decide (gs.length < fs.length)) := by
 have hd := O.hD fs gs.length (F.len O)
 have k2 := O.hk2
 by_cases h : gs.length < fs.length
 · simp [rhT, rhρ, kQ, h, k2, hd, qL]
 · simp [rhT, rhρ, kQ, h]
theorem aI8 {S : Srch} (O : S.ok) {fs : List PyData} {gs : List (List Nat)} {x : PyData} {u v : Option A} (F : Fnd S fs) (hx : fs[gs.length]? = some x) : ∃ fs' js u' v', rhB (rhρ S fs gs u v) = .ok (.nx (rhρ S fs' (gs ++ [js]) u' v')) /\ fs <+: fs' /\ Fnd S fs' /\ jY fs' js (S.after x) := by
 obtain ⟨fs', js, v', q, hp, F', R⟩ := aL9 O F hx (v := v)
 have hgl : gs.length < fs.length := by
  rcases Nat.lt_or_ge gs.length fs.length with h | h
  · exact h
  · rw [List.getElem?_eq_none h] at hx; cases hx
 have hfl := F.len O
 have hol := O.hl
 obtain ⟨g1, g2⟩ := O.hG _ _ (by omega) (F.gd _ _ hx)
 have k1 := O.hk1
 have hi := kD g2
 have ix : dIx (.list fs) (.int (gs.length : Int)) = .ok x := qP (gD hx)
 have hlt : gs.length < 16777216 := by omega
 have hjl : js.length <= 16777216 := by rw [R.1]; exact g2
 simp only [rhρ] at q
 refine ⟨fs', js, some (.l (js.map fun j : Nat => .int (j : Int))), v', ?_, hp, F', R⟩
 simp [rhB, rhρ, kQ, ix, k1, g1, hi, q, hlt, iF]
theorem aI9 {S : Srch} (O : S.ok) : ∀ (n : Nat) (fs : List PyData) (gs : List (List Nat)) (u v : Option A), Fnd S fs -> gs.length <= fs.length -> fs[0]? = some S.x0 -> (∀ (i : Nat) (js : List Nat) (x : PyData), gs[i]? = some js -> fs[i]? = some x -> jY fs js (S.after x)) -> S.lim + 1 <= gs.length + n ->
  ∃ fs' gs' u' v', cD rhT rhB (rhρ S fs gs u v) = .ok (.nx (rhρ S fs' gs' u' v')) /\ Fnd S fs' /\ gs'.length = fs'.length /\ fs'[0]? = some S.x0 /\ ∀ (i : Nat) (js : List Nat) (x : PyData), gs'[i]? = some js -> fs'[i]? = some x -> jY fs' js (S.after x) := by
 intro n
 induction n with
 | zero =>
  intro fs gs u v F hl h0 hR hn
  have := F.len O
  omega
 | succ n ih =>
  intro fs gs u v F hl h0 hR hn
  by_cases h : gs.length < fs.length
  ·have hx : fs[gs.length]? = some fs[gs.length] := List.getElem?_eq_getElem h
   obtain ⟨fs', js, u', v', q, ⟨t, rfl⟩, F', R⟩ := aI8 O (u := u) (v := v) F hx
   rw [kR (by rw [aA4 O F, decide_eq_true h]) q]
   have hlt : ∀ {i : Nat} {x : PyData}, i <= gs.length -> (fs ++ t)[i]? = some x -> fs[i]? = some x := fun {i x} hi e => by rw [List.getElem?_append_left (by omega)] at e; exact e
   refine ih (fs ++ t) (gs ++ [js]) u' v' F' (by simp; omega) (by rw [List.getElem?_append_left (by omega)]; exact h0) (fun i js' x e1 e2 => ?_) (by simp; omega)
   by_cases hi : i < gs.length
   ·rw [List.getElem?_append_left hi] at e1
    exact (hR i js' x e1 (hlt (by omega) e2)).mono (List.prefix_append ..)
   ·rw [List.getElem?_append_right (by omega)] at e1
    have hz : i - gs.length = 0 := by
     rcases Nat.eq_zero_or_pos (i - gs.length) with z | z
     · exact z
     · rw [List.getElem?_eq_none (by simp; omega)] at e1; cases e1
    rw [hz] at e1
    cases e1
    have e3 := hlt (by omega) e2
    rw [show i = gs.length by omega, hx] at e3
    cases e3
    exact R
  ·rw [iC (by rw [aA4 O F, decide_eq_false h])]
   exact ⟨fs, gs, u, v, rfl, F, by omega, h0, hR⟩
structure Rchd (S : Srch) (fs : List PyData) (gs : List (List Nat)) : Prop where
 fnd : Fnd S fs
 len : gs.length = fs.length
 zer : fs[0]? = some S.x0
 row : ∀ (i : Nat) (js : List Nat) (x : PyData), gs[i]? = some js -> fs[i]? = some x -> jY fs js (S.after x)
theorem aMA {S : Srch} (O : S.ok) : ∃ fs gs, jG [.d S.x0, .g S.k1 1 S.G, .g S.k2 2 S.D] = .ok (.d (.tuple [.list fs, .list (gs.map iF)])) /\ Rchd S fs gs := by
 have hk := O.key 0 _ O.g0
 obtain ⟨fs, gs, u, v, q, F, hl, h0, hR⟩ := aI9 O (S.lim + 1) [S.x0] [] none none ⟨by simp, fun i x e => by
  cases i with
  | zero => cases e; exact O.g0
  | succ i => simp at e⟩ (by simp) rfl (fun i js x e => by simp at e) (by simp)
 refine ⟨fs, gs, ?_, F, hl, h0, hR⟩
 have hi : iE [S.x0] = [(S.x0, .int 0)] := rfl
 have hs : eY S.x0 [] = true := by unfold eY; rw [hk]; rfl
 have hp : hX [] [(S.x0, .int 0)] = .ok [(S.x0, .int 0)] := by simp [Fl.hX, hs, putM, gI, jQ]
 unfold jG
 rw [aL8]
 simp only [rhρ, hi, List.map_nil] at q
 simp [hp, q]
end Mc
namespace Mc
open PySem L2 PyProof.Rows Fl
noncomputable def wT : Sg -> R Bool := (mZ (e1 asB (eA (aZ 1 dX (aB (vV 2) aL)))))
noncomputable def wB : Sg -> R Fw := (aH (sIf (e1 asB (lY false 3 (eV 2))) (bS (vD (eC (.str "ever")))) sNx)
 (aH (kK 3 (eV 2) (eC (.bool true)))
 (aH (bO 4 (vD (e2 dIx (e2 dIx (rV 0) (rV 2)) (eC (.int 2)))))
 (bO 2 (vD (eIf (e1 asB (eA (aZ 1 dX (aB (vV 4) aL)))) (eV 4) (e2 dIx (e2 dIx (rV 1) (eC (.int 1))) (rV 4))))))))
theorem aMB : kW = aH (bO 2 (vD (e2 dIx (rV 1) (eC (.int 0))))) (aH (mK 3) (aH (cD wT wB) (bS (vV 2)))) := id rfl
noncomputable def wρ (rs : List Rw) (f : Tn) (bk : List Tn) (t : Tn) (ps : List Int) (u : Option A) : Sg := [some (.d (cM rs)), some (.d (gZ f bk)), some (.d t.d), some (.m (been PyData.int ps)), u]
theorem aF4 {rs : List Rw} {f : Tn} {bk : List Tn} {x : Str} {ps : List Int} {u : Option A} : wT (wρ rs f bk (.w x) ps u) = .ok false := by
 simp [wT, wρ, Tn.d, vG]
theorem aF5 {rs : List Rw} {f : Tn} {bk : List Tn} {q : Int} {ps : List Int} {u : Option A} : wT (wρ rs f bk (.n q) ps u) = .ok true := by
 simp [wT, wρ, Tn.d, vF]
theorem aMC {rs : List Rw} {f : Tn} {bk : List Tn} {q : Int} {ps : List Int} {u : Option A} (h : q ∈ ps) : wB (wρ rs f bk (.n q) ps u) = .ok (.rt (.d (.str "ever"))) := by
 have h1 := iQ ps q
 have h2 := (oU iP).mpr h
 simp [wB, wρ, Tn.d, h1, h2]
theorem aOU {rs : List Rw} {f : Tn} {bk : List Tn} {q : Int} {ps : List Int} {u : Option A} {x : Str} (h : q ∉ ps) (rv : cQ rs q) (hp : ps.length <= 16777216) (e : (aV rs q).r = .w x) : wB (wρ rs f bk (.n q) ps u) = .ok (.nx (wρ rs f bk (.w x) (ps ++ [q]) (some (.d (.str x))))) := by
 have h1 := iQ ps q
 have h2 := jI iP h
 have h3 := l6 iP h
 have h4 : (been PyData.int ps).length <= 16777216 := by rw [kE]; exact hp
 have hr := tY rv.1 rv.2
 simp [wB, wρ, Tn.d, h1, h2, h3, h4, hr, bU, e, vG]
theorem aOV {rs : List Rw} {f : Tn} {bk : List Tn} {q q' : Int} {ps : List Int} {u : Option A} (h : q ∉ ps) (rv : cQ rs q) (hp : ps.length <= 16777216) (e : (aV rs q).r = .n q') (h0 : 0 <= q') (hl : q' < (bk.length : Int)) : wB (wρ rs f bk (.n q) ps u) = .ok (.nx (wρ rs f bk (bkF bk q') (ps ++ [q]) (some (.d (.int q'))))) := by
 have h1 := iQ ps q
 have h2 := jI iP h
 have h3 := l6 iP h
 have h4 : (been PyData.int ps).length <= 16777216 := by rw [kE]; exact hp
 have hr := tY rv.1 rv.2
 have hb := aG0 h0 hl
 simp [wB, wρ, Tn.d, h1, h2, h3, h4, hr, bU, e, vF, gZ, hb]
theorem oV {rs : List Rw} {sg : Nat} (M : Mach rs sg) {q q' : Int} (rv : cQ rs q) (e : (aV rs q).r = .n q') : 0 <= q' /\ q' < (rs.length : Int) := by
 have hr := List.mem_of_getElem? (c9 rv.1 rv.2)
 have := (M.row _ hr).1.2.1
 rw [e] at this
 exact this
theorem aJA {rs : List Rw} {sg : Nat} {f : Tn} {bk : List Tn} (M : Mach rs sg) (hb : bk.length = rs.length) (hv : ∀ t ∈ bk, tnV rs.length t) {q0 : Int} : ∀ (n : Nat) (ps : List Int) (q : Int) (u : Option A), Und2 (fF rs (bkF bk)) q0 ps q -> (∀ p ∈ ps, cQ rs p) -> cQ rs q -> rs.length + 1 <= ps.length + n ->
  aH (cD wT wB) (bS (vV 2)) (wρ rs f bk (.n q) ps u) = .ok (.rt (.d (.str ((bQ (fF rs (bkF bk)) q0).getD fC)))) := by
 intro n
 induction n with
 | zero =>
  intro ps q u U pv rv hn
  have := qU U.nd pv
  omega
 | succ n ih =>
  intro ps q u U pv rv hn
  rw [cT]
  by_cases hs : q ∈ ps
  ·rw [mQ aF5 (aMC hs), U.met hs]; rfl
  ·have hl : ps.length <= rs.length := qU U.nd pv
   have hp : ps.length <= 16777216 := by have := M.len2; omega
   cases e : (aV rs q).r with
   | w x =>
    have st : fF rs (bkF bk) q = some (.inr x) := by unfold fF; rw [e]
    rw [kR aF5 (aOU hs rv hp e), iC aF4, U.outs st]
    simp [wρ, Tn.d]
   | n q' =>
    obtain ⟨g1, g2⟩ := oV M rv e
    rw [kR aF5 (aOV hs rv hp e g1 (by rw [hb]; exact g2))]
    have gd := qT hv q'
    cases e2 : bkF bk q' with
    | w x =>
     have st : fF rs (bkF bk) q = some (.inr x) := by unfold fF; rw [e]; simp only; rw [e2]
     rw [iC aF4, U.outs st]
     simp [wρ, Tn.d]
    | n r =>
     rw [e2] at gd
     have st : fF rs (bkF bk) q = some (.inl r) := by unfold fF; rw [e]; simp only; rw [e2]
     have := ih (ps ++ [q]) r (some (.d (.int q'))) (U.next hs st) (fun p hp => by
      rcases List.mem_append.mp hp with z | z
      · exact pv p z
      · rw [List.mem_singleton.mp z]; exact rv) gd (by rw [List.length_append, List.length_singleton]; omega)
     rw [cT] at this
     exact this
theorem aNI {rs : List Rw} {sg : Nat} {f : Tn} {bk : List Tn} (M : Mach rs sg) (hb : bk.length = rs.length) (hv : ∀ t ∈ bk, tnV rs.length t) (hf : tnV rs.length f) : eG [.d (cM rs), .d (gZ f bk)] = .ok (.d (.str (wbR rs (bkF bk) f))) := by
 have i0 : dIx (gZ f bk) (.int 0) = .ok f.d := rfl
 have key : aH (cD wT wB) (bS (vV 2)) (wρ rs f bk f [] none) = .ok (.rt (.d (.str (wbR rs (bkF bk) f)))) := by
  cases f with
  | w x =>
   rw [cT, iC aF4]
   simp [wρ, Tn.d, wbR]
  | n q => exact aJA M hb hv (rs.length + 1) [] q none Und2.start (fun p hp => by simp at hp) hf (by simp)
 unfold eG
 rw [aMB]
 rw [cT] at key
 simp only [wρ, been, List.map_nil] at key
 simp only [iW, cT, r0, qN, wY, lD, jV, jU, List.getElem?_cons_zero, List.getElem?_cons_succ, i0, R.bind_ok, List.length_cons, List.length_nil, Nat.reduceAdd, List.map_cons, List.map_nil, List.cons_append, List.nil_append, List.replicate, List.set_cons_zero, List.set_cons_succ, key]
theorem aF6 {rs : List Rw} {sg : Nat} (M : Mach rs sg) {bk bk' : Int -> Tn} (h : ∀ q, cQ rs q -> bk q = bk' q) (hg : ∀ q, cQ rs q -> tnV rs.length (bk q)) {t : Tn} (ht : tnV rs.length t) : wbR rs bk t = wbR rs bk' t := by
 cases t with
 | w x => rfl
 | n q =>
  have st : ∀ q, cQ rs q -> fF rs bk q = fF rs bk' q := fun q rv => by
   unfold fF
   cases e : (aV rs q).r with
   | w x => rfl
   | n q' => simp only; rw [h q' (oV M rv e)]
  have nx : ∀ q q', cQ rs q -> fF rs bk q = some (.inl q') -> cQ rs q' := fun q q' rv e => by
   unfold fF at e
   cases e2 : (aV rs q).r with
   | w x => rw [e2] at e; cases e
   | n r =>
    rw [e2] at e
    simp only at e
    have gd := hg _ (oV M rv e2)
    split at e
    · rename_i r' er; cases e; rw [er] at gd; exact gd
    · cases e
  have a1 : ∀ n q o, cQ rs q -> Ex (fF rs bk) n q o -> Ex (fF rs bk') n q o := by
   intro n q o rv hx
   induction hx with
   | @out q o e => exact .out (by rw [<- st q rv]; exact e)
   | @go q q' o n e t ih => exact .go (by rw [<- st q rv]; exact e) (ih (nx q q' rv e))
  have a2 : ∀ n q o, cQ rs q -> Ex (fF rs bk') n q o -> Ex (fF rs bk) n q o := by
   intro n q o rv hx
   induction hx with
   | @out q o e => exact .out (by rw [st q rv]; exact e)
   | @go q q' o n e t ih =>
    have e' : fF rs bk q = some (.inl q') := by rw [st q rv]; exact e
    exact .go e' (ih (nx q q' rv e'))
  show (bQ (fF rs bk) q).getD fC = (bQ (fF rs bk') q).getD fC
  rw [rF (st := fF rs bk) (st' := fF rs bk') (s := q) (s' := q) fun o => ⟨fun ⟨n, x⟩ => ⟨n, a1 n q o ht x⟩, fun ⟨n, x⟩ => ⟨n, a2 n q o ht x⟩⟩]
theorem aMD {rs : List Rw} {sg : Nat} {z : List Nat} (M : Mach rs sg) (S : a8 sg z) : eG [.d (cM rs), .d (cW rs z)] = .ok (.d (.str (jX rs z))) := by
 have hl : ((List.range rs.length).map fun q : Nat => c7 rs z (q : Int)).length = rs.length := by simp
 have hv : ∀ t ∈ (List.range rs.length).map fun q : Nat => c7 rs z (q : Int), tnV rs.length t := fun t ht => by
  obtain ⟨q, hq, rfl⟩ := List.mem_map.mp ht
  exact kG M S (tZ (List.mem_range.mp hq))
 unfold cW
 rw [aNI M hl hv (kG M S (beg0 M z)), aF6 M (fun q rv => vH rv) (fun q rv => qT hv q) (kG M S (beg0 M z)), <- aF1 M S]
 rfl
end Mc
namespace Mc
open PySem L2 PyProof.Rows Fl
theorem aEK {rs : List Rw} {sg : Nat} {z : List Nat} (M : Mach rs sg) (S : a8 sg z) {s : Int × Int} (V : m7 rs z s) : (dO rs z s).ok := by
 have hev : (Tn.w fC).ok := by show PyData.strOk fC = true; decide +kernel
 unfold dO
 cases e : bQ (cS rs z) s with
 | none => exact hev
 | some t =>
  obtain ⟨n, h⟩ := fE e
  show t.ok
  clear e
  induction h with
  | @out s o h =>
   unfold cS at h
   rcases beg_cell M S V with ⟨x, e, h0⟩ | ⟨q, e, rv, h1, h2⟩
   ·rw [e] at h
    cases h
    have hr := List.mem_of_getElem? (c9 V.2.2.1 V.2.2.2)
    have := ((M.row _ hr).1.ok).1
    unfold bP at e
    rw [if_pos h0] at e
    simp only at e
    rw [e] at this
    exact this
   ·rw [e] at h
    simp only at h
    split at h
    · cases h
    · cases h; exact trivial
  | @go s s' o n h t ih =>
   refine ih ?_
   unfold cS at h
   rcases beg_cell M S V with ⟨x, e, h0⟩ | ⟨q, e, rv, h1, h2⟩
   ·rw [e] at h; cases h
   ·rw [e] at h
    simp only at h
    split at h
    · rename_i h3; cases h; exact ⟨h1, h3, rv⟩
    · cases h
theorem aJB {rs : List Rw} {sg : Nat} {z : List Nat} (M : Mach rs sg) (S : a8 sg z) : (dO rs z (0, 0)).ok /\ ∀ t ∈ (List.range rs.length).map fun q : Nat => c7 rs z (q : Int), t.ok := ⟨aEK M S (beg0 M z), fun t ht => by
 obtain ⟨q, hq, rfl⟩ := List.mem_map.mp ht
 exact aEK M S (tZ (List.mem_range.mp hq))⟩
theorem sE : ∀ {xs : List PyData}, (∀ x ∈ xs, fH x = true) -> eJ xs = true
 | [], _ => rfl
 | x :: t, h => by
  show (fH x && eJ t) = true
  rw [h x (List.mem_cons_self ..), sE fun y hy => h y (List.mem_cons_of_mem _ hy)]; rfl
theorem aEL {t : Tn} (h : t.ok) : fH t.d = true := by
 cases t with
 | n i => rfl
 | w x => exact h
theorem aJC {f : Tn} {bk : List Tn} (hf : f.ok) (hb : ∀ t ∈ bk, t.ok) : lT (gZ f bk) = true := by
 have h1 : fH (gZ f bk) = true := by
  show eJ [f.d, .tuple (bk.map Tn.d)] = true
  refine sE fun x hx => ?_
  rcases List.mem_cons.mp hx with z | hx
  ·rw [z]; exact aEL hf
  ·rw [List.mem_singleton.mp hx]
   show eJ (bk.map Tn.d) = true
   refine sE fun x hx => ?_
   obtain ⟨c, hc, rfl⟩ := List.mem_map.mp hx
   exact aEL (hb c hc)
 have h2 : Sh 3 (gZ f bk) := by
  refine aDD fun x hx => ?_
  rcases List.mem_cons.mp hx with z | hx
  ·rw [z]; exact aGH _ hf
  ·rw [List.mem_singleton.mp hx]
   refine aDD fun x hx => ?_
   obtain ⟨c, hc, rfl⟩ := List.mem_map.mp hx
   exact aGH _ (hb c hc)
 show (fH (gZ f bk) && decide ((gZ f bk).depth <= 8)) = true
 rw [h1, decide_eq_true (Nat.le_trans h2.2 (by decide))]; rfl
noncomputable def vI (rs : List Rw) (x : PyData) (k : Nat) : PyData := match gR [.d x, .d (fR rs k)] with
 | .ok (.d y) => y
 | _ => .none
theorem vJ {rs : List Rw} {sg k : Nat} {z : List Nat} (M : Mach rs sg) (S : a8 sg z) (hk : k < sg) : vI rs (cW rs z) k = cW rs (z ++ [97 + k]) := by
 have := y9 M S (c := 97 + k) (by unfold bV; exact decide_eq_true (by omega))
 rw [show 97 + k - 97 = k by omega] at this
 unfold vI
 rw [this]
def m8 (rs : List Rw) (sg : Nat) : Prop := ∀ xs : List PyData, xs.Nodup -> (∀ x ∈ xs, ∃ z, a8 sg z /\ x = cW rs z) -> xs.length <= 200
noncomputable def kM (rs : List Rw) (sg : Nat) : Srch where
 after x := (List.range sg).map (vI rs x)
 x0 := cW rs []
 good i x := ∃ z, a8 sg z /\ z.length <= i /\ x = cW rs z
 lim := 200
 k1 := 4
 k2 := 1
 G := jR 2 dL [.d (.list ((List.range sg).map (fR rs)))]
 D := jR 2 fB []
theorem aCD {sg k : Nat} {z : List Nat} (S : a8 sg z) (hk : k < sg) (hl : z.length < 1000) : a8 sg (z ++ [97 + k]) := ⟨by simp; omega, fun c hc => by
 rcases List.mem_append.mp hc with h | h
 · exact S.2 c h
 · rw [List.mem_singleton.mp h]; unfold bV; exact decide_eq_true (by omega)⟩
theorem aEM {rs : List Rw} {sg : Nat} (M : Mach rs sg) (B : m8 rs sg) : (kM rs sg).ok where
 g0 := ⟨[], ⟨by simp, fun c hc => by simp at hc⟩, by simp, rfl⟩
 gs i x h hi y hy := by
  obtain ⟨z, S, hz, rfl⟩ := h
  obtain ⟨k, hk, rfl⟩ := List.mem_map.mp hy
  have hk := List.mem_range.mp hk
  have hi : i <= 200 := hi
  exact ⟨z ++ [97 + k], aCD S hk (by omega), by simp; omega, vJ M S hk⟩
 up i j x hij h := by
  obtain ⟨z, S, hz, e⟩ := h
  exact ⟨z, S, by omega, e⟩
 few xs hn h := B xs hn fun x hx => by
  obtain ⟨i, z, S, _, e⟩ := h x hx
  exact ⟨z, S, e⟩
 key i x h := by
  obtain ⟨z, S, _, rfl⟩ := h
  obtain ⟨o1, o2⟩ := aJB M S
  exact aJC o1 o2
 hk1 := by show 4 <= 12; decide
 hk2 := by show 1 <= 12; decide
 hG i x hi h := by
  obtain ⟨z, S, hz, rfl⟩ := h
  refine ⟨?_, by show ((List.range sg).map _).length <= _; have := M.sg3; simp; omega⟩
  have hc := dM (fs := stN 0) (fe := eA (aZ 2 gR (aB (vV 1) (aB (vV 0) aL)))) (ρ0 := [none, some (.d (cW rs z))]) (d := fR rs) (g := vI rs (cW rs z)) (xs := List.range sg) fun k hk => by
   refine ⟨_, rfl, ?_⟩
   have hk := List.mem_range.mp hk
   have := y9 M S (c := 97 + k) (by unfold bV; exact decide_eq_true (by omega))
   rw [show 97 + k - 97 = k by omega, <- vJ M S hk] at this
   simp [this]
  have hi := kD (xs := (List.range sg).map (fR rs)) (by have := M.sg3; simp; omega)
  show jR 2 dL [.d (.list ((List.range sg).map (fR rs)))] [cW rs z] = _
  unfold jR dL
  simp [hi, fJ, hc, dOf]
  rfl
 hD fs i hf := by
  have hf : fs.length <= 200 := hf
  show jR 2 fB [] [.list fs, .int i] = _
  have h : ¬ (200 : Int) < (fs.length : Int) := by omega
  unfold jR fB
  simp [kQ, dOf]
  omega
 hl := by show 200 <= 16000000; decide
noncomputable def jZ (rs : List Rw) (x : PyData) : PyData := match eG [.d (cM rs), .d x] with
 | .ok (.d y) => y
 | _ => .none
theorem t5 {rs : List Rw} {sg : Nat} {z : List Nat} (M : Mach rs sg) (S : a8 sg z) : jZ rs (cW rs z) = .str (jX rs z) := by
 unfold jZ
 rw [aMD M S]
noncomputable def fS (rs : List Rw) (fs : List PyData) (gs : List (List Nat)) : PyData := .tuple [.tuple (gs.map iF), .tuple (fs.map (jZ rs))]
theorem aNJ {rs : List Rw} {sg : Nat} (M : Mach rs sg) (B : m8 rs sg) : ∃ fs gs, jH [.d (cM rs)] = .ok (.d (fS rs fs gs)) /\ Rchd (kM rs sg) fs gs := by
 obtain ⟨fs, gs, e, R⟩ := aMA (aEM M B)
 refine ⟨fs, gs, ?_, R⟩
 obtain ⟨r, t, hrs, hr⟩ := M.cons
 have hsg : iM [.d (cM rs)] = .ok (.d (.int sg)) := by rw [hrs, aIY, hr]
 have hrg := eH (n := sg) (by have := M.sg3; omega)
 have hc := aL5 M [some (.d (cM rs)), none, none, none, none] rfl
 rw [show fJ [none, some 0] [some (.d (cM rs)), none, none, none, none] = [none, some (.d (cM rs))] from rfl] at hc
 have hw := aNG M
 have hfl : fs.length <= 200 := R.fnd.len (aEM M B)
 have hcw := dM (fs := stN 0) (fe := eA (aZ 2 eG (aB (vV 1) (aB (vV 0) aL)))) (ρ0 := [none, some (.d (cM rs))]) (d := id) (g := jZ rs) (xs := fs) fun x hx => by
  refine ⟨_, rfl, ?_⟩
  obtain ⟨i, hi⟩ := List.getElem?_of_mem hx
  obtain ⟨z, S, _, rfl⟩ := R.fnd.gd i x hi
  have := aMD M S
  rw [t5 M S]
  simp [this]
 rw [List.map_id] at hcw
 have hif := kD (xs := fs) (by omega)
 have hng : ¬ (200 : Int) < (fs.length : Int) := by omega
 have e : jG [.d (cW rs []), .g 4 1 (jR 2 dL [.d (.list ((List.range sg).map (fR rs)))]), .g 1 2 (jR 2 fB [])] = .ok (.d (.tuple [.list fs, .list (gs.map iF)])) := e
 have i0 : dIx (.tuple [.list fs, .list (gs.map iF)]) (.int 0) = .ok (.list fs) := rfl
 have i1 : dIx (.tuple [.list fs, .list (gs.map iF)]) (.int 1) = .ok (.list (gs.map iF)) := rfl
 unfold jH pO
 simp [hsg, hrg, hc, hw, aB6, tQ, wX, aB8, hZ, wW, e, dOf, i0, i1, kQ, hng, hif, fJ, hcw]
 rfl
theorem aA5 {rs : List Rw} {sg : Nat} {fs : List PyData} {gs : List (List Nat)} (R : Rchd (kM rs sg) fs gs) {i : Nat} {x : PyData} (hx : fs[i]? = some x) : ∃ js, gs[i]? = some js /\ js.length = sg /\ ∀ k, k < sg -> ∃ j, js[k]? = some j /\ fs[j]? = some (vI rs x k) := by
 have hi : i < gs.length := by
  rw [R.len]
  rcases Nat.lt_or_ge i fs.length with h | h
  · exact h
  · rw [List.getElem?_eq_none h] at hx; cases hx
 have hj : gs[i]? = some gs[i] := List.getElem?_eq_getElem hi
 obtain ⟨h1, h2⟩ := R.row i _ x hj hx
 refine ⟨_, hj, by rw [h1]; show ((List.range sg).map _).length = sg; simp, fun k hk => h2 k _ ?_⟩
 show ((List.range sg).map (vI rs x))[k]? = _
 rw [List.getElem?_map, List.getElem?_range hk]; rfl
noncomputable def rfB : Sg -> R Fw := (bO 1 (vD (e2 dIx (e2 dIx (e2 dIx (rV 0) (eC (.int 0))) (rV 1)) (e2 nL (eC (.str "abc")) (rV 3)))))
theorem aJD {rs : List Rw} {sg : Nat} {fs : List PyData} {gs : List (List Nat)} (M : Mach rs sg) (R : Rchd (kM rs sg) fs gs) {y : List Nat} {z : Str} {r : Nat} (S : a8 sg (y ++ z.cps.toList)) (hr : fs[r]? = some (cW rs y)) : ∃ r' : Nat, iV [.d (fS rs fs gs), .d (.int (r : Int)), .d (.str z)] = .ok (.d (.int (r' : Int))) /\ fs[r']? = some (cW rs (y ++ z.cps.toList)) := by
 have hzl : z.cps.toList.length <= 1000 := by have := S.1; rw [List.length_append] at this; omega
 have hi : cJ (.str z) = .ok (z.cps.toList.map fun u : Nat => PyData.str ⟨#[u]⟩) := r9 (by omega)
 obtain ⟨ρ', q1, q2⟩ := fQ (fs := stN 3) (fb := rfB) (d := fun u : Nat => PyData.str ⟨#[u]⟩) (xs := z.cps.toList) (ρ := [some (.d (fS rs fs gs)), some (.d (.int (r : Int))), some (.d (.str z)), none])
  (fun i ρ => ∃ (r' : Nat) (u : Option A), ρ = [some (.d (fS rs fs gs)), some (.d (.int (r' : Int))), some (.d (.str z)), u] /\ fs[r']? = some (cW rs (y ++ z.cps.toList.take i))) ⟨r, none, rfl, by simpa using hr⟩ fun i c ρ hc zz0 => by
  obtain ⟨r', u, e, hf⟩ := zz0
  have hcm := List.mem_of_getElem? hc
  have hs : bV sg c = true := S.2 c (List.mem_append_right _ hcm)
  have hck : c - 97 < sg := by have := of_decide_eq_true hs; omega
  obtain ⟨js, g1, g2, g3⟩ := aA5 R hf
  obtain ⟨j, j1, j2⟩ := g3 _ hck
  have ht : z.cps.toList.take (i + 1) = z.cps.toList.take i ++ [c] := by rw [List.take_succ, hc]; rfl
  have Sp : a8 sg (y ++ z.cps.toList.take i) := ⟨by have := S.1; rw [List.length_append] at this ⊢; rw [List.length_take]; omega, fun c hc => S.2 c (by
   rcases List.mem_append.mp hc with h | h
   · exact List.mem_append_left _ h
   · exact List.mem_append_right _ (List.mem_of_mem_take h))⟩
  refine ⟨_, [some (.d (fS rs fs gs)), some (.d (.int (j : Int))), some (.d (.str z)), some (.d (.str ⟨#[c]⟩))], by rw [e]; rfl, .inl ?_, j, _, rfl, ?_⟩
  ·have i0 : dIx (fS rs fs gs) (.int 0) = .ok (.tuple (gs.map iF)) := rfl
   have i1 : dIx (.tuple (gs.map iF)) (.int (r' : Int)) = .ok (iF js) := jW (gD (by rw [List.getElem?_map, g1]; rfl))
   have i2 : dIx (iF js) (.int ((c - 97 : Nat) : Int)) = .ok (.int (j : Int)) := jW (gD (by rw [List.getElem?_map, j1]; rfl))
   have ia := aAZ (yV M.sg3 hs)
   simp [rfB, i0, i1, ia, i2]
  ·rw [j2, ht, <- List.append_assoc, vJ M Sp hck, show 97 + (c - 97) = c by have := of_decide_eq_true hs; omega]
 obtain ⟨r', u, rfl, hf⟩ := q2
 rw [List.take_length] at hf
 refine ⟨r', ?_, hf⟩
 unfold iV m4
 change fnF 4 (aH (gA _ (stN 3) rfB) _) _ = _
 simp [hi, q1]
theorem wG {rs : List Rw} {sg : Nat} {fs : List PyData} {gs : List (List Nat)} (R : Rchd (kM rs sg) fs gs) : jT [.d (fS rs fs gs)] = .ok (.d (.int sg)) := by
 obtain ⟨js, g1, g2, g3⟩ := aA5 R R.zer
 have i0 : dIx (fS rs fs gs) (.int 0) = .ok (.tuple (gs.map iF)) := rfl
 have i1 : dIx (.tuple (gs.map iF)) (.int 0) = .ok (iF js) := jW (gD (j := 0) (by rw [List.getElem?_map, g1]; rfl))
 have l1 : dLen (iF js) = .ok (.int sg) := by unfold iF; rw [aLN, List.length_map, g2]
 simp [jT, oR, i0, i1, l1]
theorem aG1 {rs : List Rw} {sg : Nat} {fs : List PyData} {gs : List (List Nat)} (M : Mach rs sg) (R : Rchd (kM rs sg) fs gs) {z : Str} (S : a8 sg z.cps.toList) : ∃ r : Nat, fZ [.d (fS rs fs gs), .d (.str z)] = .ok (.d (.int (r : Int))) /\ fs[r]? = some (cW rs z.cps.toList) := by
 obtain ⟨r, e, h⟩ := aJD M R (y := []) (z := z) (r := 0) (by simpa using S) R.zer
 refine ⟨r, ?_, by simpa using h⟩
 have hs := wG R
 have hc := aGY M.sg1 M.sg3 (z := z) (by have := S.1; omega)
 rw [xK S.2] at hc
 simp only [Int.natCast_zero] at e
 simp [fZ, mM, hs, hc, e]
theorem zC {rs : List Rw} {sg : Nat} {fs : List PyData} {gs : List (List Nat)} (M : Mach rs sg) {z : List Nat} (S : a8 sg z) {r : Nat} (h : fs[r]? = some (cW rs z)) : dIx (.tuple (fs.map (jZ rs))) (.int (r : Int)) = .ok (.str (jX rs z)) := jW (gD (by rw [List.getElem?_map, h]; show some (jZ rs (cW rs z)) = _; rw [t5 M S]))
theorem aNK {rs : List Rw} {sg : Nat} {fs : List PyData} {gs : List (List Nat)} (M : Mach rs sg) (R : Rchd (kM rs sg) fs gs) {z : Str} (S : a8 sg z.cps.toList) : fK [.d (fS rs fs gs), .d (.str z)] = .ok (.d (.str (jX rs z.cps.toList))) := by
 obtain ⟨r, e, h⟩ := aG1 M R S
 have i1 : dIx (fS rs fs gs) (.int 1) = .ok (.tuple (fs.map (jZ rs))) := rfl
 have w := zC (gs := gs) M S h
 simp [fK, mO, e, i1, w]
theorem aF7 {rs : List Rw} {sg : Nat} {fs : List PyData} {gs : List (List Nat)} (M : Mach rs sg) (R : Rchd (kM rs sg) fs gs) {z : Str} {i : Nat} (hz : z.cps.toList.length <= 16777216) (h : iI sg 0 z.cps.toList = some i) : fK [.d (fS rs fs gs), .d (.str z)] = .ex ⟨"NoStrip", [("at", .int i)]⟩ := by
 have hs := wG R
 have hc := aGY M.sg1 M.sg3 hz
 rw [h] at hc
 have i1 : dIx (fS rs fs gs) (.int 1) = .ok (.tuple (fs.map (jZ rs))) := rfl
 simp [fK, mO, fZ, mM, hs, hc, i1]
end Mc
namespace Mc
open PySem L2 PyProof.Rows Fl
theorem zD {rs : List Rw} {sg : Nat} (code : List Nat -> Nat) (hl : ∀ z, a8 sg z -> code z < 200) (hi : ∀ z z', a8 sg z -> a8 sg z' -> code z = code z' -> cW rs z = cW rs z') : m8 rs sg := fun xs hn h => by
 classical
 let f : PyData -> Nat := fun x => if h : ∃ z, a8 sg z /\ x = cW rs z then code h.choose else 0
 have hf : ∀ x ∈ xs, ∃ z, a8 sg z /\ x = cW rs z /\ f x = code z := fun x hx => ⟨(h x hx).choose, (h x hx).choose_spec.1, (h x hx).choose_spec.2, dif_pos (h x hx)⟩
 refine vW f 200 xs hn (fun x hx => ?_) (fun a ha b hb e => ?_)
 ·obtain ⟨z, S, _, e⟩ := hf x hx
  rw [e]; exact hl z S
 ·obtain ⟨z, S, e1, e2⟩ := hf a ha
  obtain ⟨z', S', e3, e4⟩ := hf b hb
  rw [e1, e3]
  exact hi z z' S S' (by rw [<- e2, <- e4]; exact e)
def tnB (m : Nat) : Tn -> Prop
 | .n i => 0 <= i /\ i < (m : Int)
 | .w x => x = "by" \/ x = "out" \/ x = "ever"
theorem qV {rs : List Rw} {sg : Nat} {z : List Nat} (M : Mach rs sg) (S : a8 sg z) {s : Int × Int} (V : m7 rs z s) : tnB rs.length (dO rs z s) := by
 unfold dO
 cases e : bQ (cS rs z) s with
 | none => exact .inr (.inr rfl)
 | some t =>
  obtain ⟨n, h⟩ := fE e
  show tnB rs.length t
  clear e
  induction h with
  | @out s o h =>
   unfold cS at h
   rcases beg_cell M S V with ⟨x, e, h0⟩ | ⟨q, e, rv, h1, h2⟩
   ·rw [e] at h
    cases h
    have hr := List.mem_of_getElem? (c9 V.2.2.1 V.2.2.2)
    have := (M.row _ hr).1.1
    unfold bP at e
    rw [if_pos h0] at e
    simp only at e
    rw [e] at this
    rcases this with h | h
    · exact .inl h
    · exact .inr (.inl h)
   ·rw [e] at h
    simp only at h
    split at h
    · cases h
    · cases h; exact rv
  | @go s s' o n h t ih =>
   refine ih ?_
   unfold cS at h
   rcases beg_cell M S V with ⟨x, e, h0⟩ | ⟨q, e, rv, h1, h2⟩
   ·rw [e] at h; cases h
   ·rw [e] at h
    simp only at h
    split at h
    · rename_i h3; cases h; exact ⟨h1, h3, rv⟩
    · cases h
def tc (m : Nat) : Tn -> Nat
 | .n i => i.toNat
 | .w x => if x = "by" then m else if x = "out" then m + 1 else m + 2
theorem mS {m : Nat} {t : Tn} (h : tnB m t) : tc m t < m + 3 := by
 cases t with
 | n i => have : 0 <= i /\ i < (m : Int) := h; show i.toNat < _; omega
 | w x => show (if x = "by" then m else if x = "out" then m + 1 else m + 2) < _; split <;> (try split) <;> omega
theorem t6 {m : Nat} {t u : Tn} (h : tnB m t) (h' : tnB m u) (e : tc m t = tc m u) : t = u := by
 have hby : ("by" : Str) ≠ "out" := by decide +kernel
 have h1 : ("ever" : Str) ≠ "by" := by decide +kernel
 have h2 : ("ever" : Str) ≠ "out" := by decide +kernel
 cases t with
 | n i =>
  have a : 0 <= i /\ i < (m : Int) := h
  cases u with
  | n j =>
   have b : 0 <= j /\ j < (m : Int) := h'
   have e : i.toNat = j.toNat := e
   rw [show i = j by omega]
  | w x =>
   have e : i.toNat = (if x = "by" then m else if x = "out" then m + 1 else m + 2) := e
   split at e <;> (try split at e) <;> omega
 | w x =>
  cases u with
  | n j =>
   have b : 0 <= j /\ j < (m : Int) := h'
   have e : (if x = "by" then m else if x = "out" then m + 1 else m + 2) = j.toNat := e
   split at e <;> (try split at e) <;> omega
  | w y =>
   have e : (if x = "by" then m else if x = "out" then m + 1 else m + 2) = (if y = "by" then m else if y = "out" then m + 1 else m + 2) := e
   rcases h with rfl | rfl | rfl <;> rcases h' with rfl | rfl | rfl <;> first | rfl | (simp [hby, hby.symm, h1, h1.symm, h2, h2.symm] at e)
theorem sG {rs : List Rw} {z z' : List Nat} (h1 : dO rs z (0, 0) = dO rs z' (0, 0)) (h2 : ∀ q : Nat, q < rs.length -> c7 rs z (q : Int) = c7 rs z' (q : Int)) : cW rs z = cW rs z' := by
 unfold cW
 rw [h1, List.map_congr_left fun q hq => h2 q (List.mem_range.mp hq)]
theorem aJE {rs : List Rw} {sg : Nat} (M : Mach rs sg) (h2 : rs.length = 2) : m8 rs sg := by
 have b0 : ∀ z, a8 sg z -> tnB 2 (dO rs z (0, 0)) := fun z S => h2 ▸ qV M S (beg0 M z)
 have b1 : ∀ z, a8 sg z -> tnB 2 (c7 rs z ((0 : Nat) : Int)) := fun z S => h2 ▸ qV M S (tZ (by omega))
 have b2 : ∀ z, a8 sg z -> tnB 2 (c7 rs z ((1 : Nat) : Int)) := fun z S => h2 ▸ qV M S (tZ (by omega))
 refine zD (fun z => tc 2 (dO rs z (0, 0)) * 25 + tc 2 (c7 rs z ((0 : Nat) : Int)) * 5 + tc 2 (c7 rs z ((1 : Nat) : Int))) (fun z S => ?_) (fun z z' S S' e => ?_)
 ·have := mS (b0 z S)
  have := mS (b1 z S)
  have := mS (b2 z S)
  show _ < 200
  omega
 ·have l1 := mS (b1 z S)
  have l2 := mS (b2 z S)
  have m1 := mS (b1 z' S')
  have m2 := mS (b2 z' S')
  have e0 : tc 2 (dO rs z (0, 0)) = tc 2 (dO rs z' (0, 0)) := by omega
  have e1 : tc 2 (c7 rs z ((0 : Nat) : Int)) = tc 2 (c7 rs z' ((0 : Nat) : Int)) := by omega
  have e2 : tc 2 (c7 rs z ((1 : Nat) : Int)) = tc 2 (c7 rs z' ((1 : Nat) : Int)) := by omega
  refine sG (t6 (b0 z S) (b0 z' S') e0) fun q hq => ?_
  have : q = 0 \/ q = 1 := by omega
  rcases this with rfl | rfl
  · exact t6 (b1 z S) (b1 z' S') e1
  · exact t6 (b2 z S) (b2 z' S') e2
def lG (z : List Nat) : Nat := match z.getLast? with
 | none => 0
 | some c => c - 96
theorem lN {sg : Nat} {z : List Nat} (s3 : sg <= 3) (S : a8 sg z) : lG z < 4 := by
 unfold lG
 cases e : z.getLast? with
 | none => simp
 | some c =>
  have := of_decide_eq_true (S.2 c (List.mem_of_getLast? e))
  show c - 96 < 4
  omega
theorem last_eq {sg : Nat} {z z' : List Nat} (S : a8 sg z) (S' : a8 sg z') (e : lG z = lG z') : (z = [] /\ z' = []) \/ ∃ y y' c, z = y ++ [c] /\ z' = y' ++ [c] /\ a8 sg y /\ a8 sg y' /\ bV sg c = true := by
 unfold lG at e
 cases h : z.getLast? with
 | none =>
  have hz := List.getLast?_eq_none_iff.mp h
  cases h' : z'.getLast? with
  | none => exact .inl ⟨hz, List.getLast?_eq_none_iff.mp h'⟩
  | some c' =>
   rw [h, h'] at e
   have := of_decide_eq_true (S'.2 c' (List.mem_of_getLast? h'))
   have e : 0 = c' - 96 := e
   omega
 | some c =>
  have hc := of_decide_eq_true (S.2 c (List.mem_of_getLast? h))
  cases h' : z'.getLast? with
  | none =>
   rw [h, h'] at e
   have e : c - 96 = 0 := e
   omega
  | some c' =>
   have hc' := of_decide_eq_true (S'.2 c' (List.mem_of_getLast? h'))
   rw [h, h'] at e
   have e : c - 96 = c' - 96 := e
   have ec : c' = c := by omega
   subst ec
   obtain ⟨y, hy⟩ := List.getLast?_eq_some_iff.mp h
   obtain ⟨y', hy'⟩ := List.getLast?_eq_some_iff.mp h'
   refine .inr ⟨y, y', c', hy, hy', ?_, ?_, S.2 c' (List.mem_of_getLast? h)⟩
   · rw [hy] at S; exact ⟨by have := S.1; simp at this; omega, fun c hc => S.2 c (List.mem_append_left _ hc)⟩
   · rw [hy'] at S'; exact ⟨by have := S'.1; simp at this; omega, fun c hc => S'.2 c (List.mem_append_left _ hc)⟩
theorem l8 {rs : List Rw} {bk : Int -> Tn} {c : Nat} {q : Int} (h : (ck (c - 97) (aV rs q)).2 = 1) : onR rs bk c (.n q) = .n (ck (c - 97) (aV rs q)).1 := by
 have : eD rs bk c q = some (.inr (.n (ck (c - 97) (aV rs q)).1)) := by rw [nS, if_pos h]
 show (bQ (eD rs bk c) q).getD (.w fC) = _
 rw [mF this]; rfl
theorem aCE {rs : List Rw} {sg : Nat} (M : Mach rs sg) (h9 : rs.length <= 40) (hr : ∀ r ∈ rs, ∀ k, k < sg -> (ck k r).2 = 1) : m8 rs sg := by
 have b0 : ∀ z, a8 sg z -> tnB rs.length (dO rs z (0, 0)) := fun z S => qV M S (beg0 M z)
 refine zD (fun z => tc rs.length (dO rs z (0, 0)) * 4 + lG z) (fun z S => ?_) (fun z z' S S' e => ?_)
 ·have := mS (b0 z S)
  have := lN M.sg3 S
  show _ < 200
  omega
 ·have l1 := lN M.sg3 S
  have l2 := lN M.sg3 S'
  refine sG (t6 (b0 z S) (b0 z' S') (by omega)) fun q hq => ?_
  rcases last_eq S S' (by omega) with ⟨rfl, rfl⟩ | ⟨y, y', c, rfl, rfl, Sy, Sy', hc⟩
  ·rfl
  ·have rv : cQ rs (q : Int) := ⟨by omega, by omega⟩
   have hk : c - 97 < sg := by have := of_decide_eq_true hc; omega
   have h1 := hr _ (List.mem_of_getElem? (c9 rv.1 rv.2)) _ hk
   rw [jJ M Sy hc rv, jJ M Sy' hc rv, l8 h1, l8 h1]
structure Ctr (rs : List Rw) (sg p q : Nat) : Prop where
 len : rs.length = p + 1 + q
 p1 : 1 <= p
 p5 : p <= 5
 q1 : 1 <= q
 q5 : q <= 5
 lef : (aV rs 0).l = .n 0
 mid : (aV rs (p : Int)).l = .n ((p : Int) + 1)
 a : ∀ i : Nat, i < p -> ∀ k, k < sg -> ck k (aV rs (i : Int)) = ((((i + (if k = 0 then 1 else 0)) % p : Nat) : Int), 1)
 b : ∀ k, k < sg -> ck k (aV rs (p : Int)) = ((p : Int), -1)
 c : ∀ j : Nat, j < q -> ∀ k, k < sg -> ck k (aV rs ((p + 1 + j : Nat) : Int)) = (((p + 1 + (j + (if k = sg - 1 then 1 else 0)) % q : Nat) : Int), 1)
def cntS (k : Nat) : List Nat -> Nat
 | [] => 0
 | c :: t => (if c - 97 = k then 1 else 0) + cntS k t
theorem sH (k c : Nat) : ∀ z, cntS k (z ++ [c]) = cntS k z + (if c - 97 = k then 1 else 0)
 | [] => by simp [cntS]
 | d :: t => by show _ + cntS k (t ++ [c]) = _ + cntS k t + _; rw [sH k c t]; omega
theorem zE {P : List Nat -> Prop} (h0 : P []) (hs : ∀ z c, P z -> P (z ++ [c])) (z : List Nat) : P z := by
 rw [<- List.reverse_reverse z]
 induction z.reverse with
 | nil => exact h0
 | cons c t ih => rw [List.reverse_cons]; exact hs _ _ ih
theorem t7 {sg c : Nat} {z : List Nat} (S : a8 sg (z ++ [c])) : a8 sg z /\ bV sg c = true := ⟨⟨by have := S.1; simp at this; omega, fun c hc => S.2 c (List.mem_append_left _ hc)⟩, S.2 c (by simp)⟩
theorem wH {rs : List Rw} {sg p q : Nat} (M : Mach rs sg) (C : Ctr rs sg p q) (z : List Nat) : a8 sg z -> dO rs z (0, 0) = .n ((cntS 0 z % p : Nat) : Int) := by
 refine zE (P := fun z => a8 sg z -> dO rs z (0, 0) = .n ((cntS 0 z % p : Nat) : Int)) (fun S => ?_) (fun z c ih S => ?_) z
 ·rw [qS, C.lef]
  show _ = Tn.n ((0 % p : Nat) : Int)
  rw [Nat.zero_mod]; rfl
 ·obtain ⟨Sz, hc⟩ := t7 S
  have hk : c - 97 < sg := by have := of_decide_eq_true hc; omega
  have hp := C.p1
  have hi : cntS 0 z % p < p := Nat.mod_lt _ (by omega)
  have a := C.a _ hi _ hk
  rw [wE M Sz hc, ih Sz, l8 (by rw [a]), a, sH]
  simp only
  rw [Nat.mod_add_mod]
theorem zF {rs : List Rw} {sg p q : Nat} (M : Mach rs sg) (C : Ctr rs sg p q) (z : List Nat) : a8 sg z -> c7 rs z (p : Int) = .n ((p + 1 + cntS (sg - 1) z % q : Nat) : Int) := by
 have rv : cQ rs (p : Int) := ⟨by omega, by rw [C.len]; omega⟩
 refine zE (P := fun z => a8 sg z -> c7 rs z (p : Int) = .n ((p + 1 + cntS (sg - 1) z % q : Nat) : Int)) (fun S => ?_) (fun z c ih S => ?_) z
 ·show dO rs [] (0, (p : Int)) = _
  rw [qS, C.mid]
  show _ = Tn.n ((p + 1 + 0 % q : Nat) : Int)
  rw [Nat.zero_mod]; rfl
 ·obtain ⟨Sz, hc⟩ := t7 S
  have hk : c - 97 < sg := by have := of_decide_eq_true hc; omega
  have hq := C.q1
  have hi : cntS (sg - 1) z % q < q := Nat.mod_lt _ (by omega)
  have b := C.b _ hk
  have cc := C.c _ hi _ hk
  have st : eD rs (c7 rs z) c (p : Int) = some (.inl ((p + 1 + cntS (sg - 1) z % q : Nat) : Int)) := by
   rw [nS, b, if_neg (show ¬ ((-1 : Int) = 1) by decide)]
   simp only
   rw [ih Sz]
  have st2 : eD rs (c7 rs z) c ((p + 1 + cntS (sg - 1) z % q : Nat) : Int) = some (.inr (.n ((p + 1 + (cntS (sg - 1) z % q + (if c - 97 = sg - 1 then 1 else 0)) % q : Nat) : Int))) := by
   rw [nS, cc, if_pos rfl]
  rw [jJ M Sz hc rv, sH]
  show (bQ (eD rs (c7 rs z) c) (p : Int)).getD (.w fC) = _
  rw [aFA st, mF st2]
  show Tn.n _ = _
  rw [Nat.mod_add_mod]
theorem aJF {rs : List Rw} {sg p q : Nat} (M : Mach rs sg) (C : Ctr rs sg p q) : m8 rs sg := by
 have hp := C.p1
 have hp5 := C.p5
 have hq := C.q1
 have hq5 := C.q5
 have m0 : ∀ z, cntS 0 z % p < p := fun z => Nat.mod_lt _ (by omega)
 have m1 : ∀ z, cntS (sg - 1) z % q < q := fun z => Nat.mod_lt _ (by omega)
 refine zD (fun z => cntS 0 z % p * 20 + cntS (sg - 1) z % q * 4 + lG z) (fun z S => ?_) (fun z z' S S' e => ?_)
 ·have := m0 z
  have := m1 z
  have := lN M.sg3 S
  show _ < 200
  omega
 ·have l1 := lN M.sg3 S
  have l2 := lN M.sg3 S'
  have a1 := m0 z
  have a2 := m0 z'
  have b1 := m1 z
  have b2 := m1 z'
  have e : cntS 0 z % p * 20 + cntS (sg - 1) z % q * 4 + lG z = cntS 0 z' % p * 20 + cntS (sg - 1) z' % q * 4 + lG z' := e
  have e0 : cntS 0 z % p = cntS 0 z' % p := by omega
  have e1 : cntS (sg - 1) z % q = cntS (sg - 1) z' % q := by omega
  refine sG (by rw [wH M C z S, wH M C z' S', e0]) fun i hi => ?_
  rw [C.len] at hi
  by_cases hip : i = p
  ·subst hip
   rw [zF M C z S, zF M C z' S', e1]
  ·rcases last_eq S S' (by omega) with ⟨rfl, rfl⟩ | ⟨y, y', c, rfl, rfl, Sy, Sy', hc⟩
   ·rfl
   ·have rv : cQ rs (i : Int) := ⟨by omega, by rw [C.len]; omega⟩
    have hk : c - 97 < sg := by have := of_decide_eq_true hc; omega
    have h1 : (ck (c - 97) (aV rs (i : Int))).2 = 1 := by
     by_cases h : i < p
     ·rw [C.a i h _ hk]
     ·have := C.c (i - (p + 1)) (by omega) _ hk
      rw [show p + 1 + (i - (p + 1)) = i by omega] at this
      rw [this]
    rw [jJ M Sy hc rv, jJ M Sy' hc rv, l8 h1, l8 h1]
end Mc
namespace Mc
open PySem L2 PyProof.Rows Fl
noncomputable def iS : Sg -> R Fw := (aH (dC 4 (d6 aL))
 (aH (gA (e1 cJ (eA (aZ 4 dY (aB (vV 0) (aB (vV 1) (aB (vV 2) (aB (vV 3) aL))))))) (stT [(stN 5), (stN 6), (stN 7)]) (eI 4 (cV (aB (eV 5) (aB (e1 dTup (eL (dJ [none] (e1 cJ (rV 6)) (stN 0) eS (cV (aB (e2 dIx (rV 0) (eC (.int 0))) (aB (eC (.int 1)) aL)))))) (aB (eV 7) aL))))))
 (bS (vD (e1 dTup (rV 4))))))
noncomputable def fG : List A -> R A := fnF 8 iS
noncomputable def iG : Sg -> R Fw := (aH (bO 2 (vD (e2 bE (eC (.int 1)) (e2 dMod (rV 0) (eC (.int 5))))))
 (aH (bO 3 (vD (e2 bE (eC (.int 1)) (e2 dMod (e2 dDiv (rV 0) (eC (.int 5))) (eC (.int 5))))))
 (aH (bO 4 (vD (e2 dMod (e2 dDiv (rV 0) (eC (.int 25))) (rV 2))))
 (aH (dC 5 (d6 aL))
 (aH (gA (dD (rV 2)) (stN 6) (aH (dC 7 (dJ [none, some 6, some 2] (dD (rV 1)) (stN 0) eS (cV (aB (e2 dMod (e2 bE (rV 1) (e1 dInt (e2 dEq (rV 0) (eC (.int 0))))) (rV 2)) (aB (eC (.int 1)) aL)))))
 (eI 5 (cV (aB (e2 dIx (eL (d6 (aB (eC (.int 0)) (aB (eV 6) aL)))) (e1 dInt (e2 dGt (rV 6) (eC (.int 0))))) (aB (e1 dTup (rV 7)) (aB (e2 dIx (eL (d6 (aB (eV 2) (aB (eC (.str "out")) aL)))) (e1 dInt (e2 dNe (rV 6) (rV 4)))) aL)))))))
 (aH (eI 5 (cV (aB (e2 bE (rV 2) (eC (.int 1))) (aB (e1 dTup (eL (dJ [none, some 2] (dD (rV 1)) (stN 0) eS (cV (aB (eV 1) (aB (e1 dNeg (eC (.int 1))) aL)))))) (aB (eC (.str "out")) aL)))))
 (aH (gA (dD (rV 3)) (stN 6) (aH (dC 7 (dJ [none, some 2, some 6, some 1, some 3] (dD (rV 1)) (stN 0) eS (cV (aB (e2 bE (e2 bE (rV 1) (eC (.int 1))) (e2 dMod (e2 bE (rV 2) (e1 dInt (e2 dEq (rV 0) (e2 dSub (rV 3) (eC (.int 1)))))) (rV 4))) (aB (eC (.int 1)) aL)))))
 (eI 5 (cV (aB (e2 bE (e2 bE (rV 2) (eC (.int 1))) (rV 6)) (aB (e1 dTup (rV 7)) (aB (e2 dIx (eL (d6 (aB (eC (.str "by")) (aB (eC (.str "out")) aL)))) (e1 dInt (e2 dGt (rV 6) (eC (.int 0))))) aL)))))))
 (bS (vD (e1 dTup (rV 5)))))))))))
noncomputable def eW : List A -> R A := fnF 8 iG
noncomputable def iH : Sg -> R Fw := (aH (bO 3 (vD (eC .none)))
 (aH (yG 4 none 2 fK (aB (vV 0) (aB (vV 1) aL)) ["NoStrip"] (bO 3 (vD (eXF 4 ["NoStrip"] "at"))))
 (bS (vD (aFL (e1 (gQ "int") (rV 3)) (e2 dEq (rV 3) (rV 2)))))))
noncomputable def dZ : List A -> R A := fnF 5 iH
noncomputable def aCF : Sg -> R Fw := (aH (bO 1 (vD (e2 dMod (eA (aZ 2 bM (aB (vV 0) (aB (vD (eC (.int 0))) aL)))) (eC (.int 3)))))
 (aH (bO 2 (vD (e2 bE (eC (.int 1)) (e2 dMod (eA (aZ 2 bM (aB (vV 0) (aB (vD (eC (.int 1))) aL)))) (eC (.int 3))))))
 (aH (bO 3 (vD (eC (.int 2))))
 (aH (bO 4 (aZ 4 dY (aB (vV 0) (aB (vD (eC (.int 3))) (aB (vD (eC (.int 2))) (aB (vV 2) aL))))))
 (aH (sIf (e1 asB (e2 dEq (rV 1) (eC (.int 1)))) (aH (bO 3 (vD (e2 bE (eC (.int 1)) (e2 dMod (eA (aZ 2 bM (aB (vV 0) (aB (vD (eC (.int 2))) aL)))) (eC (.int 9))))))
 (bO 4 (aZ 4 fG (aB (vV 0) (aB (vD (eC (.int 3))) (aB (vV 3) (aB (vV 2) aL))))))) sNx)
 (aH (sIf (e1 asB (e2 dEq (rV 1) (eC (.int 2)))) (bO 4 (aZ 2 eW (aB (vD (e2 dMod (eA (aZ 2 bM (aB (vV 0) (aB (vD (eC (.int 2))) aL)))) (eC (.int 2147483647)))) (aB (vV 2) aL)))) sNx)
 (aH (bO 5 (aZ 4 eU (aB (vV 0) (aB (vD (e2 bE (eC (.int 3)) (rV 3))) (aB (vD (e2 (d2 u9) (eC (.int 0)) (e2 (d2 vA) (eC (.int 50)) (e2 dSub (e2 dSub (e1 dLen (rV 0)) (eC (.int 3))) (rV 3))))) (aB (vV 2) aL))))))
 (aH (bO 6 (aZ 1 jH (aB (vV 4) aL)))
 (aH (dC 7 (e2 m3 (eL (dJ [none, some 5] (dD (e2 bE (e1 dLen (rV 5)) (eC (.int 1)))) (stN 0) eS (eSl dSl (rV 1) oNo (oSo (rV 0))))) (eL (e1 dLS (eSl dSl (eC (.str "abc")) oNo (oSo (rV 2)))))))
 (aH (gA (e1 cJ (eSl dSl (eC (.str "abc")) oNo (oSo (rV 2)))) (stN 8) (dC 7 (e2 m3 (rV 7) (eL (dJ [none, some 8] (e1 cJ (eSl dSl (eC (.str "abc")) oNo (oSo (rV 2)))) (stN 0) eS (e2 bE (rV 1) (rV 0)))))))
 (aH (sFz 7 (gA (e1 cJ (eV 7)) (stN 9) (aH (bO 10 (aZ 2 gY (aB (vV 4) (aB (vV 9) aL))))
 (aH (bO 11 (aZ 2 fZ (aB (vV 6) (aB (vV 9) aL))))
 (sIf (bOr (e1 asB (e2 dNe (eA (aZ 2 fK (aB (vV 6) (aB (vV 9) aL)))) (rV 10))) (bOr (mZ (e1 asB (e1 (gQ "int") (rV 11)))) (e1 asB (e2 dNe (e2 dIx (e2 dIx (rV 6) (eC (.int 1))) (rV 11)) (rV 10))))) (bS (vD (eC (.bool false)))) sNx)))))
 (bS (aZ 3 dZ (aB (vV 6) (aB (vD (e2 bE (e2 bE (rV 5) (e2 dIx (eC (.str "abcd")) (rV 2))) (eC (.str "d")))) (aB (vD (e1 dLen (rV 5))) aL))))))))))))))))
noncomputable def aCG : List A -> R A := fnF 12 aCF
end Mc
namespace Mc
open PySem L2 PyProof.Rows Fl
def top (i : Nat) : Stmt := PySem.Challenge.pw_striproam_k22_whole_one_way_says_what_wa.main.body.getD i (.Pass ⟨0, 0, 0, 0⟩)
def dP : ClSt := clS "one_way.<locals>.after" ((c8 (top 18)).getD 1 (.Pass ⟨0, 0, 0, 0⟩))
def f7 : Pos := aOJ ((c8 (top 18)).getD 1 (.Pass ⟨0, 0, 0, 0⟩))
def f8 : ClSt := clE "one_way.<locals>.<lambda>" (aLL (aLK ((c8 (top 18)).getD 2 (.Pass ⟨0, 0, 0, 0⟩))) 2)
def gB : Pos := aOK (aLL (aLK ((c8 (top 18)).getD 2 (.Pass ⟨0, 0, 0, 0⟩))) 2)
def qsT : List (Pos × Str) := [(f7, ("one_way.<locals>.after" : Str)), (gB, ("one_way.<locals>.<lambda>" : Str))]
structure Txt (w : World) (K : Frag) (mg : Str -> Option Value) : Prop where
 b_enumerate : mg "enumerate" = none
 b_int : mg "int" = none
 b_isinstance : mg "isinstance" = none
 b_len : mg "len" = none
 b_list : mg "list" = none
 b_max : mg "max" = none
 b_min : mg "min" = none
 b_range : mg "range" = none
 b_str : mg "str" = none
 b_tuple : mg "tuple" = none
 g_MOST_BEGINNINGS : ∃ t, mg "MOST_BEGINNINGS" = some (.int 200 t)
 g_SIGNS : ∃ t, mg "SIGNS" = some (.str "abc" t)
section
variable {P : Program} {w : World} {K : Frag} {mg : Str -> Option Value} {base : Heap} {TH : Hp}
theorem rH : FnScope ["machine"] ["machine"] (aO (top 6)) := by constructor <;> first | rfl | decide +kernel
theorem zW (T : Txt w K mg) (D : DefAt K mg "signs_of" (top 6) ["machine"]) : aX P w K mg base TH 1 "signs_of" ["machine"] iM :=
 @cY P w K mg base TH "signs_of" (top 6) ["machine"] ["machine"] 0 oP D rH (fun f cdv A outer s H F E hr => by
  have nd := rH.nd
  exact (Fl.aS (Fl.bT (aT (d7 rfl (b7 cU rfl T.b_len PySem.boot_len (aK (aA (bA (bB rfl) aP (aA (bA (bB rfl) aP (aC (pv 0)) (aA aD))) (aA aD))) aQ)))))))
theorem rJ : FnScope ["machine", "number"] ["machine", "number"] (aO (top 7)) := by constructor <;> first | rfl | decide +kernel
theorem zX (T : Txt w K mg) (D : DefAt K mg "cells_of" (top 7) ["machine", "number"]) : aX P w K mg base TH 1 "cells_of" ["machine", "number"] iN :=
 @cY P w K mg base TH "cells_of" (top 7) ["machine", "number"] ["machine", "number"] 0 oQ D rJ (fun f cdv A outer s H F E hr => by
  have nd := rJ.nd
  exact (Fl.aS (Fl.bT (aT (dW (fW (fV (N := ["row", "number"]) (js := [none, some 1]) rfl (.own (.cap rfl (.inl rfl) (.inl rfl) .nil)) (by rfl) (pD rfl (aC (pv 0)))) (by decide) (by decide) (is := [0]) (fun cl C s0 H0 fp => ⟨_, (bJ (i := 0) (show (["row", "number"] : List Str).Nodup by decide +kernel) rfl (Or.inl rfl)), (bK 0), Fl.dS, (bA (bB rfl) aP (aA (bA (bB rfl) aP (aC (pv 0)) (aA aD))) (aC (pv 1)))⟩)))))))
theorem oW : FnScope ["signs", "strip", "known", "at", "sign"] ["signs", "strip"] (aO (top 8)) := by constructor <;> first | rfl | decide +kernel
theorem wK (T : Txt w K mg) (D : DefAt K mg "checked_by" (top 8) ["signs", "strip"]) {W_NoStrip C_NoStrip : Addr} (er_NoStrip : ErrAt P w K mg base "NoStrip" ["at"] W_NoStrip C_NoStrip) : aX P w K mg base TH 3 "checked_by" ["signs", "strip"] iA :=
 @cY P w K mg base TH "checked_by" (top 8) ["signs", "strip", "known", "at", "sign"] ["signs", "strip"] 2 l0 D oW (fun f cdv A outer s H F E hr => by
  have nd := oW.nd
  exact (Fl.aE (Fl.aJ (L2.aJ (i := 2) nd rfl (Or.inl rfl) (aT (i7 rfl (aA (gP (m9 (v := .str "abc") rfl T.g_SIGNS.choose_spec ⟨_, rfl⟩) fun _ => .str _)) oH (oI (aC (pv 0)))))))
   (Fl.aE (Fl.cX (nK rfl (d9 (bK 3) (d9 (bK 4) lL)) rfl) (L2.cX (eE ⟨rfl, rfl⟩) rfl (aK0 rfl (aE7 rfl T.b_enumerate (aK (bY (pv 1)) aQ))) (nC rfl (d4 (bJ (i := 3) nd rfl (Or.inl rfl)) (d4 (bJ (i := 4) nd rfl (Or.inl rfl)) lI)))
   (Fl.aS (Fl.eX (Fl.dH (aH2 rfl hr.units) aDT (aC (pv 4)) (aC (pv 2)) (by with_unfolding_all rfl)) (Fl.aS (Fl.rP er_NoStrip.m (by decide) (aC9 rfl er_NoStrip rfl (hr.mono (by decide)) (aM (bY (pv 3)) bF)))) Fl.dB))))
   (Fl.aS (Fl.bT (aU (pv 1)))))))
theorem t8 : FnScope ["begin", "after", "done", "found", "numbers", "rows", "row", "thing"] ["begin", "after", "done"] (aO (top 10)) := by constructor <;> first | rfl | decide +kernel
theorem aCH (T : Txt w K mg) (D : DefAt K mg "reached" (top 10) ["begin", "after", "done"]) : aX P w K mg base TH 13 "reached" ["begin", "after", "done"] jG :=
 @cY P w K mg base TH "reached" (top 10) ["begin", "after", "done", "found", "numbers", "rows", "row", "thing"] ["begin", "after", "done"] 12 pM D t8 (fun f cdv A outer s H F E hr => by
  have nd := t8.nd
  exact (Fl.aE (fA (L2.aJ (i := 3) nd rfl (Or.inl rfl) (eK (aM (bY (pv 0)) bF))))
   (Fl.aE (aIF rfl rfl (L2.aJ (i := 4) nd rfl (Or.inl rfl) (aID hr.units (aFS (bY (pv 0)) aD aIE))))
   (Fl.aE (fA (L2.aJ (i := 5) nd rfl (Or.inl rfl) (eK bF)))
   (Fl.aE (Fl.gL (L2.gL (eE ⟨rfl, rfl⟩) (PW.pt (Fl.lO (Fl.dH xY rT (aA (d7 rfl (b7 cU rfl T.b_len PySem.boot_len (aK (aC (pv 5)) aQ)))) (aA (d7 rfl (b7 cU rfl T.b_len PySem.boot_len (aK (aC (pv 3)) aQ)))) (cO _)) (Fl.lH (Fl.nB (Fl.jK (aIL (m := 12) rfl rfl rfl (hr.mono (by decide)) (yK (pv 2) (cL fun _ _ _ h => h) (yM (aC (pv 3)) (yM (aA (d7 rfl (b7 cU rfl T.b_len PySem.boot_len (aK (aC (pv 5)) aQ)))) aIK)))))))))
   (Fl.aE (fA (L2.aJ (i := 6) nd rfl (Or.inl rfl) (eK bF)))
   (Fl.aE (Fl.cX (bK 7) (L2.cX (eE ⟨rfl, rfl⟩) rfl (x8 rfl (aLE (m := 12) rfl rfl rfl (hr.mono (by decide)) (yK (pv 1) (cL fun _ _ _ h => h) (aM (bA (bB rfl) aP (aC (pv 3)) (aA (d7 rfl (b7 cU rfl T.b_len PySem.boot_len (aK (aC (pv 5)) aQ))))) bF)))) (bJ (i := 7) nd rfl (Or.inl rfl))
   (Fl.aE (Fl.eX (tL rfl rfl (nE (yE hr.units) (bY (pv 7)) (pv 4) (by with_unfolding_all rfl))) (Fl.aE (Fl.qK rfl rfl (kN (d7 rfl (b7 cU rfl T.b_len PySem.boot_len (aK (aC (pv 3)) aQ))) (sO (pv 4) (bY (pv 7)) (oM hr.units))))
   (Fl.aS (gU rfl (L2.fN (gO PySem.F.plainAttrs_list PySem.F.slot_list_append PySem.F.type_list_append eF (pv 3) (aK (bY (pv 7)) aQ)))))) Fl.dB)
   (Fl.aS (gU rfl (L2.fN (gO PySem.F.plainAttrs_list PySem.F.slot_list_append PySem.F.type_list_append eF (pv 6) (aK (aH7 rfl rfl (aH6 hr.units (pv 4) (bY (pv 7)) (fun _ _ => rfl))) aQ))))))))
   (Fl.aS (gU rfl (L2.fN (gO PySem.F.plainAttrs_list PySem.F.slot_list_append PySem.F.type_list_append eF (pv 5) (aK (d8 rfl (b8 cI rfl T.b_tuple PyProof.Rows.boot_tuple (aK (aC (pv 6)) aQ))) aQ)))))))))
   (Fl.aS (qI 5 (qI 3 (Fl.bT (aT (dI (aM (bY (pv 3)) (aM (bY (pv 5)) bF)))))))))))))
theorem t9 : FnScope ["part"] ["part"] (aO (top 13)) := by constructor <;> first | rfl | decide +kernel
theorem aCI (T : Txt w K mg) (D : DefAt K mg "is_word" (top 13) ["part"]) : aX P w K mg base TH 1 "is_word" ["part"] dX :=
 @cY P w K mg base TH "is_word" (top 13) ["part"] ["part"] 0 mL D t9 (fun f cdv A outer s H F E hr => by
  have nd := t9.nd
  exact (Fl.aS (Fl.bT (aT (pJ (b7 (lX rfl (uZ _)) rfl T.b_isinstance PyProof.Rows.boot_isinstance (aK (aC (pv 0)) (aK (nA (v := .ty "str") rfl T.b_str PyProof.Rows.boot_str rfl) aQ))))))))
theorem l9 : FnScope ["machine", "lefts"] ["machine"] (aO (top 14)) := by constructor <;> first | rfl | decide +kernel
theorem sI (T : Txt w K mg) (D : DefAt K mg "without_signs" (top 14) ["machine"]) : aX P w K mg base TH 1 "without_signs" ["machine"] fY :=
 @cY P w K mg base TH "without_signs" (top 14) ["machine", "lefts"] ["machine"] 0 jS D l9 (fun f cdv A outer s H F E hr => by
  have nd := l9.nd
  exact (Fl.aE (Fl.aJ (L2.aJ (i := 1) nd rfl (Or.inl rfl) (aT (d8 rfl (b8 cI rfl T.b_tuple PyProof.Rows.boot_tuple (aK (aA (dW (fW (fV (N := ["row"]) (js := [none]) rfl (.own .nil) (by rfl) (pD rfl (aC (pv 0)))) (by decide) (by decide) (is := [0]) (fun cl C s0 H0 fp => ⟨_, (bJ (i := 0) (show (["row"] : List Str).Nodup by decide +kernel) rfl (Or.inl rfl)), (bK 0), Fl.dS, (bA (bB rfl) aP (aC (pv 0)) (aA aD))⟩)))) aQ))))))
   (Fl.aS (Fl.bT (aT (dI (aM (bA (bB rfl) aP (aC (pv 1)) (aA aD)) (aM (bY (pv 1)) bF))))))))
end
end Mc
namespace Mc
open PySem L2 PyProof.Rows Fl
section
variable {P : Program} {w : World} {K : Frag} {mg : Str -> Option Value} {base : Heap} {TH : Hp}
theorem uA : FnScope ["backs", "cells", "room", "been", "cell"] ["backs", "cells", "room"] (aO (top 15)) := by constructor <;> first | rfl | decide +kernel
theorem aCJ (T : Txt w K mg) (D : DefAt K mg "gone_on" (top 15) ["backs", "cells", "room"]) (c_is_word : aX P w K mg base TH 1 "is_word" ["part"] dX) : aX P w K mg base TH 2 "gone_on" ["backs", "cells", "room"] iB :=
 @cY P w K mg base TH "gone_on" (top 15) ["backs", "cells", "room", "been", "cell"] ["backs", "cells", "room"] 1 pN D uA (fun f cdv A outer s H F E hr => by
  have nd := uA.nd
  exact (Fl.aE (u7 rfl (L2.aJ (i := 3) nd rfl (Or.inl rfl) u0))
   (Fl.aE (Fl.gL (L2.gL (eE ⟨rfl, rfl⟩) (Fl.nB (Fl.jK (d0 (cH rfl rfl rfl (cF c_is_word (hr.mono (by decide)) rfl (cL fun _ _ _ h => h) (aF (aU (pv 2)) bH))))))
   (Fl.aE (Fl.eX (tL rfl rfl (nE (aAP hr.units) (bY (pv 2)) (pv 3) (by with_unfolding_all rfl))) (Fl.aS (Fl.bT (aT dG))) Fl.dB)
   (Fl.aE (Fl.qK rfl rfl (kN wO (sO (pv 3) (bY (pv 2)) (oM hr.units))))
   (Fl.aE (Fl.aJ (L2.aJ (i := 4) nd rfl (Or.inl rfl) (aT (bA (bB rfl) aP (aC (pv 1)) (aC (pv 2))))))
   (Fl.aE (Fl.eX (Fl.dH (hV rfl hr.units) fP (aA (bA (bB rfl) aP (aC (pv 4)) (aA aD))) (aA aD) (cO _)) (Fl.aS (Fl.bT (aT (bA (bB rfl) aP (aC (pv 4)) (aA aD))))) Fl.dB)
   (Fl.aS (Fl.aJ (L2.aJ (i := 2) nd rfl (Or.inl rfl) (aT (bA (bB rfl) aP (aC (pv 0)) (aA (bA (bB rfl) aP (aC (pv 4)) (aA aD))))))))))))))
   (Fl.aS (Fl.bT (aU (pv 2)))))))
theorem wI : FnScope ["begun", "cells", "first", "backs"] ["begun", "cells"] (aO (top 16)) := by constructor <;> first | rfl | decide +kernel
theorem aEN (T : Txt w K mg) (D : DefAt K mg "longer" (top 16) ["begun", "cells"]) (c_gone_on : aX P w K mg base TH 2 "gone_on" ["backs", "cells", "room"] iB) : aX P w K mg base TH 3 "longer" ["begun", "cells"] gR :=
 @cY P w K mg base TH "longer" (top 16) ["begun", "cells", "first", "backs"] ["begun", "cells"] 2 rZ D wI (fun f cdv A outer s H F E hr => by
  have nd := wI.nd
  exact (Fl.aE (Fl.aJ (L2.aJ (i := 2) nd rfl (Or.inl rfl) (cH rfl rfl rfl (cF c_gone_on (hr.mono (by decide)) rfl (cL fun _ _ _ h => h) (aF (aT (bA (bB rfl) aP (aC (pv 0)) (aA aD))) (aF (aU (pv 1)) (aF (aT (bA (bB rfl) aP (aC (pv 0)) (aA aD))) bH)))))))
   (Fl.aE (Fl.aJ (L2.aJ (i := 3) nd rfl (Or.inl rfl) (aT (d8 rfl (b8 cI rfl T.b_tuple PyProof.Rows.boot_tuple (aK (aA (dW (fW (fV (N := ["room", "begun", "cells"]) (js := [none, some 0, some 1]) rfl (.own (.cap rfl (.inl rfl) (.inl rfl) (.cap rfl (.inl rfl) (.inl rfl) .nil))) (by rfl) (oF (fO (dR rfl T.b_range (aK (aA (d7 rfl (b7 cU rfl T.b_len PySem.boot_len (aK (aC (pv 1)) aQ)))) aQ))))) (by decide) (by decide) (is := [0]) (fun cl C s0 H0 fp => ⟨_, (bJ (i := 0) (show (["room", "begun", "cells"] : List Str).Nodup by decide +kernel) rfl (Or.inl rfl)), (bK 0), Fl.dS, (d0 (cH rfl rfl rfl (cF c_gone_on (hr.mono (by decide)) rfl sY (aF (aT (bA (bB rfl) aP (aC (pv 1)) (aA aD))) (aF (aU (pv 2)) (aF (aU (pv 0)) bH))))))⟩)))) aQ))))))
   (Fl.aS (Fl.bT (aT (dI (aM (bY (pv 2)) (aM (bY (pv 3)) bF)))))))))
theorem nU : FnScope ["machine", "begun", "room", "been", "turn"] ["machine", "begun"] (aO (top 17)) := by constructor <;> first | rfl | decide +kernel
theorem vK (T : Txt w K mg) (D : DefAt K mg "word_behind" (top 17) ["machine", "begun"]) (c_is_word : aX P w K mg base TH 1 "is_word" ["part"] dX) : aX P w K mg base TH 2 "word_behind" ["machine", "begun"] eG :=
 @cY P w K mg base TH "word_behind" (top 17) ["machine", "begun", "room", "been", "turn"] ["machine", "begun"] 1 kW D nU (fun f cdv A outer s H F E hr => by
  have nd := nU.nd
  exact (Fl.aE (Fl.aJ (L2.aJ (i := 2) nd rfl (Or.inl rfl) (aT (bA (bB rfl) aP (aC (pv 1)) (aA aD)))))
   (Fl.aE (u7 rfl (L2.aJ (i := 3) nd rfl (Or.inl rfl) u0))
   (Fl.aE (Fl.gL (L2.gL (eE ⟨rfl, rfl⟩) (Fl.nB (Fl.jK (d0 (cH rfl rfl rfl (cF c_is_word (hr.mono (by decide)) rfl (cL fun _ _ _ h => h) (aF (aU (pv 2)) bH))))))
   (Fl.aE (Fl.eX (tL rfl rfl (nE (aAP hr.units) (bY (pv 2)) (pv 3) (by with_unfolding_all rfl))) (Fl.aS (Fl.bT (aT dG))) Fl.dB)
   (Fl.aE (Fl.qK rfl rfl (kN wO (sO (pv 3) (bY (pv 2)) (oM hr.units))))
   (Fl.aE (Fl.aJ (L2.aJ (i := 4) nd rfl (Or.inl rfl) (aT (bA (bB rfl) aP (aA (bA (bB rfl) aP (aC (pv 0)) (aC (pv 2)))) (aA aD)))))
   (Fl.aS (Fl.aJ (L2.aJ (i := 2) nd rfl (Or.inl rfl) (aT (aGP (Fl.jK (d0 (cH rfl rfl rfl (cF c_is_word (hr.mono (by decide)) rfl (cL fun _ _ _ h => h) (aF (aU (pv 4)) bH))))) (bY (pv 4)) (bA (bB rfl) aP (aA (bA (bB rfl) aP (aC (pv 1)) (aA aD))) (aC (pv 4)))))))))))))
   (Fl.aS (Fl.bT (aU (pv 2))))))))
theorem gC : CloScope ["begun", "columns"] ["begun"] ["columns"] dP.scope := ⟨rfl, rfl, rfl, by decide +kernel, rfl, by decide +kernel, by decide +kernel, by decide +kernel, by decide +kernel⟩
theorem qY : ∀ y ∈ dP.scope.names, y.2 = .free -> (aO (top 18)).names.lookup y.1 = some .cell \/ (aO (top 18)).names.lookup y.1 = some .free := by decide +kernel
theorem pU : (f7, ("one_way.<locals>.after" : Str)) ∈ qsT := (.head _)
theorem qZ : ∀ p ∈ qsT, p.1.line = f7.line -> p.1.col = f7.col -> p.2 = ("one_way.<locals>.after" : Str) := by decide +kernel
theorem pV (T : Txt w K mg) (c_longer : aX P w K mg base TH 3 "longer" ["begun", "cells"] gR) : CloOk P w K mg base TH dP ["columns"] 4 1 (jR 2 dL) :=
 @aLG P w K mg base TH dP ["begun", "columns"] ["begun"] ["columns"] 3 _ dL rfl gC (fun _ _ _ _ _ => Mc.bn1 fun _ => rfl) (fun f cc cl A outer s H F E E' hr => by
  have nd := gC.nd
  exact (Fl.aS (Fl.bT (aT (dW (fW (fV (N := ["cells", "begun"]) (js := [none, some 0]) rfl (.own (.cap rfl (.inl rfl) (.inl rfl) .nil)) (by rfl) (pD rfl (aC (pv 1)))) (by decide) (by decide) (is := [0]) (fun cl C s0 H0 fp => ⟨_, (bJ (i := 0) (show (["cells", "begun"] : List Str).Nodup by decide +kernel) rfl (Or.inl rfl)), (bK 0), Fl.dS, (d0 (cH rfl rfl rfl (cF c_longer (hr.mono (by decide)) rfl sY (aF (aU (pv 1)) (aF (aU (pv 0)) bH)))))⟩)))))))
theorem gT : CloScope ["found", "at"] ["found", "at"] [] f8.scope := ⟨rfl, rfl, rfl, by decide +kernel, rfl, by decide +kernel, by decide +kernel, by decide +kernel, by decide +kernel⟩
theorem sJ : ∀ y ∈ f8.scope.names, y.2 = .free -> (aO (top 18)).names.lookup y.1 = some .cell \/ (aO (top 18)).names.lookup y.1 = some .free := by decide +kernel
theorem q9 : (gB, ("one_way.<locals>.<lambda>" : Str)) ∈ qsT := (.tail _ (.head _))
theorem sK : ∀ p ∈ qsT, p.1.line = gB.line -> p.1.col = gB.col -> p.2 = ("one_way.<locals>.<lambda>" : Str) := by decide +kernel
theorem rA (T : Txt w K mg) : CloOk P w K mg base TH f8 [] 1 2 (jR 2 fB) :=
 @aLH P w K mg base TH f8 ["found", "at"] ["found", "at"] [] 0 _ (e2 dGt (e1 dLen (rV 0)) (eC (.int 200))) rfl gT (fun _ _ _ _ _ => Mc.bn2 fun _ _ => rfl) (fun f cc cl A outer s H F E E' hr => by
  have nd := gT.nd
  exact (iT iU f9 (aA (d7 rfl (b7 cU rfl T.b_len PySem.boot_len (aK (aC (pv 0)) aQ)))) (aA (gP (m9 (v := .int 200) rfl T.g_MOST_BEGINNINGS.choose_spec ⟨_, rfl⟩) fun _ => .int _)) (cO _)))
theorem uB : FnScope ["machine", "columns", "after", "search", "found"] ["machine"] (aO (top 18)) := by constructor <;> first | rfl | decide +kernel
theorem aCK (T : Txt w K mg) (D : DefAtT K mg base TH qsT "one_way" (top 18) ["machine"]) (c_signs_of : aX P w K mg base TH 1 "signs_of" ["machine"] iM) (c_cells_of : aX P w K mg base TH 1 "cells_of" ["machine", "number"] iN) (c_longer : aX P w K mg base TH 3 "longer" ["begun", "cells"] gR) (c_reached : aX P w K mg base TH 13 "reached" ["begin", "after", "done"] jG) (c_without_signs : aX P w K mg base TH 1 "without_signs" ["machine"] fY) (c_word_behind : aX P w K mg base TH 2 "word_behind" ["machine", "begun"] eG) {Wp_TooMany Cp_TooMany : Addr} (erp_TooMany : ErrP K mg "TooMany" Wp_TooMany Cp_TooMany) : aX P w K mg base TH 14 "one_way" ["machine"] jH :=
 @aIT P w K mg base TH "one_way" (top 18) ["machine", "columns", "after", "search", "found"] ["machine"] 13 qsT (fun q => [(("one_way.<locals>.after" : Str), dP)].lookup q) pO D uB (fun f c0 P0 A outer s H F E hTb hTP hr => by
  have nd := uB.nd
  exact (Fl.aE (fA (L2.aJ (i := 1) nd rfl (Or.inr rfl) (fW (fV (N := ["number", "machine"]) (js := [none, some 0]) rfl (.own (.cap rfl (.inl rfl) (.inl rfl) .nil)) (by rfl) (oF (fO (dR rfl T.b_range (aK (aA (d0 (cH rfl rfl rfl (cF c_signs_of (hr.mono (by decide)) rfl (cL fun _ _ _ h => h) (aF (aU (pv 0)) bH))))) aQ))))) (by decide) (by decide) (is := [0]) (fun cl C s0 H0 fp => ⟨_, (bJ (i := 0) (show (["number", "machine"] : List Str).Nodup by decide +kernel) rfl (Or.inl rfl)), (bK 0), Fl.dS, (d0 (cH rfl rfl rfl (cF c_cells_of (hr.mono (by decide)) rfl sY (aF (aU (pv 1)) (aF (aU (pv 0)) bH)))))⟩))))
   (Fl.aE (aIP (S := dP) rfl rfl hTP (L2.aKN rfl hTb rfl pU qZ qY rfl rfl rfl nd rfl (Or.inl rfl)))
   (Fl.aE (qI 1 (Fl.aJ (L2.aJ (i := 3) nd rfl (Or.inl rfl) (aLJ (js := [1]) rfl rfl rfl rfl rfl rfl rfl (aIU ⟨_, rfl, rfl, rfl⟩ aLM) (L2.aKP c_reached (hr.mono (by decide)) rfl (cL fun _ _ _ h => h) (rY (aM9 (cH rfl rfl rfl (cF c_without_signs (hr.mono (by decide)) rfl (cL fun _ _ _ h => h) (aF (aU (pv 0)) bH)))) (rY (aIQ (S := dP) rfl (pV T c_longer) (fun y hy => gC.only (y, .free) hy rfl) (fun y hy => PySem.mem_of_lookup (gC.cap y hy)) rfl (by decide) (pv 2)) (rY (aLI (S := f8) rfl hTP (rA T ) (fun y hy => gT.only (y, .free) hy rfl) (fun y hy => PySem.mem_of_lookup (gT.cap y hy)) rfl (by decide) (L2.aKO rfl hTb rfl q9 sK sJ rfl)) aIR))))))))
   (Fl.aE (Fl.aJ (L2.aJ (i := 4) nd rfl (Or.inl rfl) (aT (bA (bB rfl) aP (aC (pv 3)) (aA aD)))))
   (Fl.aE (Fl.eX (Fl.dH iU f9 (aA (d7 rfl (b7 cU rfl T.b_len PySem.boot_len (aK (aC (pv 4)) aQ)))) (aA (gP (m9 (v := .int 200) rfl T.g_MOST_BEGINNINGS.choose_spec ⟨_, rfl⟩) fun _ => .int _)) (cO _)) (Fl.aS (aD6 erp_TooMany.m (L2.v7 rfl erp_TooMany rfl (aK (aLC (aA (gP (m9 (v := .int 200) rfl T.g_MOST_BEGINNINGS.choose_spec ⟨_, rfl⟩) fun _ => .int _))) aQ)))) Fl.dB)
   (Fl.aS (Fl.bT (aT (dI (aM (d8 rfl (b8 cI rfl T.b_tuple PyProof.Rows.boot_tuple (aK (aA (bA (bB rfl) aP (aC (pv 3)) (aA aD))) aQ))) (aM (d8 rfl (b8 cI rfl T.b_tuple PyProof.Rows.boot_tuple (aK (aA (dW (fW (fV (N := ["begun", "machine"]) (js := [none, some 0]) rfl (.own (.cap rfl (.inl rfl) (.inl rfl) .nil)) (by rfl) (pD rfl (aC (pv 4)))) (by decide) (by decide) (is := [0]) (fun cl C s0 H0 fp => ⟨_, (bJ (i := 0) (show (["begun", "machine"] : List Str).Nodup by decide +kernel) rfl (Or.inl rfl)), (bK 0), Fl.dS, (d0 (cH rfl rfl rfl (cF c_word_behind (hr.mono (by decide)) rfl sY (aF (aU (pv 1)) (aF (aU (pv 0)) bH)))))⟩)))) aQ))) bF))))))))))))
theorem rK : FnScope ["reader"] ["reader"] (aO (top 19)) := by constructor <;> first | rfl | decide +kernel
theorem zY (T : Txt w K mg) (D : DefAt K mg "signs_by" (top 19) ["reader"]) : aX P w K mg base TH 1 "signs_by" ["reader"] jT :=
 @cY P w K mg base TH "signs_by" (top 19) ["reader"] ["reader"] 0 oR D rK (fun f cdv A outer s H F E hr => by
  have nd := rK.nd
  exact (Fl.aS (Fl.bT (aT (d7 rfl (b7 cU rfl T.b_len PySem.boot_len (aK (aA (bA (bB rfl) aP (aA (bA (bB rfl) aP (aC (pv 0)) (aA aD))) (aA aD))) aQ)))))))
theorem pW : FnScope ["reader", "room", "strip", "sign"] ["reader", "room", "strip"] (aO (top 20)) := by constructor <;> first | rfl | decide +kernel
theorem zG (T : Txt w K mg) (D : DefAt K mg "room_from" (top 20) ["reader", "room", "strip"]) : aX P w K mg base TH 1 "room_from" ["reader", "room", "strip"] iV :=
 @cY P w K mg base TH "room_from" (top 20) ["reader", "room", "strip", "sign"] ["reader", "room", "strip"] 0 m4 D pW (fun f cdv A outer s H F E hr => by
  have nd := pW.nd
  exact (Fl.aE (Fl.cX (bK 3) (L2.cX (eE ⟨rfl, rfl⟩) rfl (x8 rfl (bY (pv 2))) (bJ (i := 3) nd rfl (Or.inl rfl))
   (Fl.aS (Fl.aJ (L2.aJ (i := 1) nd rfl (Or.inl rfl) (aT (bA (bB rfl) aP (aA (bA (bB rfl) aP (aA (bA (bB rfl) aP (aC (pv 0)) (aA aD))) (aC (pv 1)))) (aA (yC (gO PySem.F.plainAttrs_str PySem.F.slot_str_index PySem.F.type_str_index xI (aA (gP (m9 (v := .str "abc") rfl T.g_SIGNS.choose_spec ⟨_, rfl⟩) fun _ => .str _)) (aK (aC (pv 3)) aQ)) (by intro ρ x h; cases h; exact ⟨_, rfl⟩))))))))))
   (Fl.aS (Fl.bT (aU (pv 1))))))
end
end Mc
namespace Mc
open PySem L2 PyProof.Rows Fl
section
variable {P : Program} {w : World} {K : Frag} {mg : Str -> Option Value} {base : Heap} {TH : Hp}
theorem uC : FnScope ["reader", "strip"] ["reader", "strip"] (aO (top 21)) := by constructor <;> first | rfl | decide +kernel
theorem aCL (T : Txt w K mg) (D : DefAt K mg "room_by" (top 21) ["reader", "strip"]) (c_room_from : aX P w K mg base TH 1 "room_from" ["reader", "room", "strip"] iV) (c_checked_by : aX P w K mg base TH 3 "checked_by" ["signs", "strip"] iA) (c_signs_by : aX P w K mg base TH 1 "signs_by" ["reader"] jT) : aX P w K mg base TH 4 "room_by" ["reader", "strip"] fZ :=
 @cY P w K mg base TH "room_by" (top 21) ["reader", "strip"] ["reader", "strip"] 3 mM D uC (fun f cdv A outer s H F E hr => by
  have nd := uC.nd
  exact (Fl.aS (Fl.bT (cH rfl rfl rfl (cF c_room_from (hr.mono (by decide)) rfl (cL fun _ _ _ h => h) (aF (aU (pv 0)) (aF (aT aD) (aF (cH rfl rfl rfl (cF c_checked_by (hr.mono (by decide)) rfl (cL fun _ _ _ h => h) (aF (cH rfl rfl rfl (cF c_signs_by (hr.mono (by decide)) rfl (cL fun _ _ _ h => h) (aF (aU (pv 0)) bH))) (aF (aU (pv 1)) bH)))) bH))))))))
theorem uD : FnScope ["reader", "strip"] ["reader", "strip"] (aO (top 22)) := by constructor <;> first | rfl | decide +kernel
theorem aCM (T : Txt w K mg) (D : DefAt K mg "word_by" (top 22) ["reader", "strip"]) (c_room_by : aX P w K mg base TH 4 "room_by" ["reader", "strip"] fZ) : aX P w K mg base TH 5 "word_by" ["reader", "strip"] fK :=
 @cY P w K mg base TH "word_by" (top 22) ["reader", "strip"] ["reader", "strip"] 4 mO D uD (fun f cdv A outer s H F E hr => by
  have nd := uD.nd
  exact (Fl.aS (Fl.bT (aT (bA (bB rfl) aP (aA (bA (bB rfl) aP (aC (pv 0)) (aA aD))) (aA (d0 (cH rfl rfl rfl (cF c_room_by (hr.mono (by decide)) rfl (cL fun _ _ _ h => h) (aF (aU (pv 0)) (aF (aU (pv 1)) bH)))))))))))
theorem pX : FnScope ["_law_script", "_law_k", "_law_cell_here", "_law_mixed"] ["_law_script", "_law_k"] (aO (top 24)) := by constructor <;> first | rfl | decide +kernel
theorem zH (T : Txt w K mg) (D : DefAt K mg "_law_cell" (top 24) ["_law_script", "_law_k"]) : aX P w K mg base TH 1 "_law_cell" ["_law_script", "_law_k"] bM :=
 @cY P w K mg base TH "_law_cell" (top 24) ["_law_script", "_law_k", "_law_cell_here", "_law_mixed"] ["_law_script", "_law_k"] 0 kL D pX (fun f cdv A outer s H F E hr => by
  have nd := pX.nd
  exact (Fl.aE (Fl.aJ (L2.aJ (i := 2) nd rfl (Or.inl rfl) (aT aD)))
   (Fl.aE (Fl.eX (Fl.dH iU f9 (aA (d7 rfl (b7 cU rfl T.b_len PySem.boot_len (aK (aC (pv 0)) aQ)))) (aA aD) (cO _)) (Fl.aS (Fl.aJ (L2.aJ (i := 2) nd rfl (Or.inl rfl) (aT (bA (bB rfl) aP (aC (pv 0)) (aA (aN bZ bL (aC (pv 1)) (aA (d7 rfl (b7 cU rfl T.b_len PySem.boot_len (aK (aC (pv 0)) aQ))))))))))) Fl.dB)
   (Fl.aE (Fl.aJ (L2.aJ (i := 3) nd rfl (Or.inl rfl) (aT (aN bZ bL (aA (aN iK fX (aA (aN (bX rfl) bD (aA (aN (bX rfl) bD (aA (aN bZ bL (aC (pv 2)) (aA aD))) (aA (aN iK fX (aA aD) (aC (pv 1)))))) (aA aD))) (aA aD))) (aA aD)))))
   (Fl.aS (Fl.bT (aT (aN (bX rfl) bD (aA (aN iK fX (aA (aN eZ dE (aC (pv 2)) (aA aD))) (aA aD))) (aA (aN bZ bL (aA (aN (bX rfl) bD (aA (aN iK fX (aC (pv 3)) (aA aD))) (aA (aN iK fX (aA aD) (aC (pv 1)))))) (aA aD)))))))))))
theorem rL : FnScope ["_law_number", "_law_rooms"] ["_law_number", "_law_rooms"] (aO (top 25)) := by constructor <;> first | rfl | decide +kernel
theorem zZ (T : Txt w K mg) (D : DefAt K mg "_law_end" (top 25) ["_law_number", "_law_rooms"]) : aX P w K mg base TH 1 "_law_end" ["_law_number", "_law_rooms"] f6 :=
 @cY P w K mg base TH "_law_end" (top 25) ["_law_number", "_law_rooms"] ["_law_number", "_law_rooms"] 0 lF D rL (fun f cdv A outer s H F E hr => by
  have nd := rL.nd
  exact (Fl.aE (Fl.eX (Fl.dH (hV rfl hr.units) fP (aA (aN bZ bL (aC (pv 0)) (aA aD))) (aA aD) (cO _)) (Fl.aS (Fl.bT (aT (bA (bB rfl) aP (aA (dW (eK (aM dG (aM dG bF))))) (aA (aN bZ bL (aA (aN eZ dE (aC (pv 0)) (aA aD))) (aA aD))))))) Fl.dB)
   (Fl.aS (Fl.bT (aT (aN bZ bL (aA (aN eZ dE (aC (pv 0)) (aA aD))) (aC (pv 1))))))))
theorem kY : FnScope ["_law_number", "_law_rooms", "_law_signs", "_law_left", "_law_cells", "_law_k", "_law_ends"] ["_law_number", "_law_rooms", "_law_signs"] (aO (top 26)) := by constructor <;> first | rfl | decide +kernel
theorem rB (T : Txt w K mg) (D : DefAt K mg "_law_digit_row" (top 26) ["_law_number", "_law_rooms", "_law_signs"]) : aX P w K mg base TH 1 "_law_digit_row" ["_law_number", "_law_rooms", "_law_signs"] eP :=
 @cY P w K mg base TH "_law_digit_row" (top 26) ["_law_number", "_law_rooms", "_law_signs", "_law_left", "_law_cells", "_law_k", "_law_ends"] ["_law_number", "_law_rooms", "_law_signs"] 0 i9 D kY (fun f cdv A outer s H F E hr => by
  have nd := kY.nd
  exact (Fl.aE (Fl.aJ (L2.aJ (i := 3) nd rfl (Or.inl rfl) (aT (aN bZ bL (aC (pv 0)) (aA (aN (bX rfl) bD (aC (pv 1)) (aA aD)))))))
   (Fl.aE (Fl.aJ (L2.aJ (i := 0) nd rfl (Or.inl rfl) (aT (aN eZ dE (aC (pv 0)) (aA (aN (bX rfl) bD (aC (pv 1)) (aA aD)))))))
   (Fl.aE (fA (L2.aJ (i := 4) nd rfl (Or.inl rfl) (eK bF)))
   (Fl.aE (Fl.cX (bK 5) (L2.cX (eE ⟨rfl, rfl⟩) rfl (fO (dR rfl T.b_range (aK (aC (pv 2)) aQ))) (bJ (i := 5) nd rfl (Or.inl rfl))
   (Fl.aE (gU rfl (L2.fN (gO PySem.F.plainAttrs_list PySem.F.slot_list_append PySem.F.type_list_append eF (pv 4) (aK (dI (aM (aN bZ bL (aA (aN eZ dE (aC (pv 0)) (aA aD))) (aC (pv 1))) (aM (aN kB hU (aA aD) (aA (aN iK fX (aA (aN bZ bL (aC (pv 0)) (aA aD))) (aA aD)))) bF))) aQ))))
   (Fl.aS (Fl.aJ (L2.aJ (i := 0) nd rfl (Or.inl rfl) (aT (aN eZ dE (aC (pv 0)) (aA (aN iK fX (aA aD) (aC (pv 1))))))))))))
   (Fl.aE (fA (L2.aJ (i := 6) nd rfl (Or.inl rfl) (eK (aM (bY (pv 3)) (aM (aN bZ bL (aC (pv 0)) (aA (aN (bX rfl) bD (aC (pv 1)) (aA aD)))) bF)))))
   (Fl.aE (uW (L2.nY (i := 6) nd rfl (Or.inl rfl) (by rfl) (N := ["_law_end_here", "_law_rooms"]) (js := [none, some 1]) rfl (.own (.cap rfl (.inl rfl) (.inl rfl) .nil)) (by rfl) (pD rfl (aC (pv 6)))) (by decide) (by decide) (is := [0]) (fun cl C s0 H0 fp => ⟨_, (bJ (i := 0) (show (["_law_end_here", "_law_rooms"] : List Str).Nodup by decide +kernel) rfl (Or.inl rfl)), (bK 0), Fl.dS, (aGP (Fl.dH aKU aFI (aC (pv 0)) (aC (pv 1)) (cO _)) (bA (bB rfl) aP (aA (dW (eK (aM dG (aM dG bF))))) (aA (aN kB hU (aC (pv 0)) (aC (pv 1))))) (bY (pv 0)))⟩))
   (Fl.aS (Fl.bT (aT (dI (aM (bA (bB rfl) aP (aC (pv 6)) (aA aD)) (aM (d8 rfl (b8 cI rfl T.b_tuple PyProof.Rows.boot_tuple (aK (aC (pv 4)) aQ))) (aM (bA (bB rfl) aP (aC (pv 6)) (aA aD)) bF))))))))))))))
theorem kZ : FnScope ["_law_number", "_law_rooms", "_law_signs", "_law_pieces", "_law_k", "_law_cells"] ["_law_number", "_law_rooms", "_law_signs"] (aO (top 27)) := by constructor <;> first | rfl | decide +kernel
theorem rC (T : Txt w K mg) (D : DefAt K mg "_law_mixed_row" (top 27) ["_law_number", "_law_rooms", "_law_signs"]) (c__law_end : aX P w K mg base TH 1 "_law_end" ["_law_number", "_law_rooms"] f6) : aX P w K mg base TH 2 "_law_mixed_row" ["_law_number", "_law_rooms", "_law_signs"] dN :=
 @cY P w K mg base TH "_law_mixed_row" (top 27) ["_law_number", "_law_rooms", "_law_signs", "_law_pieces", "_law_k", "_law_cells"] ["_law_number", "_law_rooms", "_law_signs"] 1 jA D kZ (fun f cdv A outer s H F E hr => by
  have nd := kZ.nd
  exact (Fl.aE (fA (L2.aJ (i := 3) nd rfl (Or.inl rfl) (eK bF)))
   (Fl.aE (Fl.cX (bK 4) (L2.cX (eE ⟨rfl, rfl⟩) rfl (fO (dR rfl T.b_range (aK (aA (aN (bX rfl) bD (aC (pv 2)) (aA aD))) aQ))) (bJ (i := 4) nd rfl (Or.inl rfl))
   (Fl.aE (Fl.aJ (L2.aJ (i := 0) nd rfl (Or.inl rfl) (aT (aN bZ bL (aA (aN (bX rfl) bD (aA (aN iK fX (aC (pv 0)) (aA aD))) (aA aD))) (aA aD)))))
   (Fl.aS (gU rfl (L2.fN (gO PySem.F.plainAttrs_list PySem.F.slot_list_append PySem.F.type_list_append eF (pv 3) (aK (aN eZ dE (aC (pv 0)) (aA aD)) aQ))))))))
   (Fl.aE (Fl.aJ (L2.aJ (i := 5) nd rfl (Or.inl rfl) (aT (d8 rfl (b8 cI rfl T.b_tuple PyProof.Rows.boot_tuple (aK (aA (dW (fW (fV (N := ["_law_piece", "_law_rooms"]) (js := [none, some 1]) rfl (.own (.cap rfl (.inl rfl) (.inl rfl) .nil)) (by rfl) (pD rfl (aA (i7 rfl (aC (pv 3)) (oI (aA aD)) oH)))) (by decide) (by decide) (is := [0]) (fun cl C s0 H0 fp => ⟨_, (bJ (i := 0) (show (["_law_piece", "_law_rooms"] : List Str).Nodup by decide +kernel) rfl (Or.inl rfl)), (bK 0), Fl.dS, (dI (aM (aN bZ bL (aC (pv 0)) (aC (pv 1))) (aM (aN kB hU (aA aD) (aA (aN iK fX (aA (aN eZ dE (aA (aN bZ bL (aA (aN eZ dE (aC (pv 0)) (aA aD))) (aA aD))) (aA aD))) (aA aD)))) bF)))⟩)))) aQ))))))
   (Fl.aS (Fl.bT (aT (dI (aM (d0 (cH rfl rfl rfl (cF c__law_end (hr.mono (by decide)) rfl (cL fun _ _ _ h => h) (aF (aT (bA (bB rfl) aP (aC (pv 3)) (aA aD))) (aF (aU (pv 1)) bH))))) (aM (bY (pv 5)) (aM (d0 (cH rfl rfl rfl (cF c__law_end (hr.mono (by decide)) rfl (cL fun _ _ _ h => h) (aF (aT (bA (bB rfl) aP (aC (pv 3)) (aA aD))) (aF (aU (pv 1)) bH))))) bF)))))))))))
end
end Mc
namespace Mc
open PySem L2 PyProof.Rows Fl
section
variable {P : Program} {w : World} {K : Frag} {mg : Str -> Option Value} {base : Heap} {TH : Hp}
theorem mT : FnScope ["_law_script", "_law_at", "_law_rooms", "_law_signs", "_law_rows", "_law_room", "_law_row"] ["_law_script", "_law_at", "_law_rooms", "_law_signs"] (aO (top 28)) := by constructor <;> first | rfl | decide +kernel
theorem uE (T : Txt w K mg) (D : DefAt K mg "_law_machine" (top 28) ["_law_script", "_law_at", "_law_rooms", "_law_signs"]) (c__law_digit_row : aX P w K mg base TH 1 "_law_digit_row" ["_law_number", "_law_rooms", "_law_signs"] eP) (c__law_mixed_row : aX P w K mg base TH 2 "_law_mixed_row" ["_law_number", "_law_rooms", "_law_signs"] dN) (c__law_cell : aX P w K mg base TH 1 "_law_cell" ["_law_script", "_law_k"] bM) : aX P w K mg base TH 3 "_law_machine" ["_law_script", "_law_at", "_law_rooms", "_law_signs"] dY :=
 @cY P w K mg base TH "_law_machine" (top 28) ["_law_script", "_law_at", "_law_rooms", "_law_signs", "_law_rows", "_law_room", "_law_row"] ["_law_script", "_law_at", "_law_rooms", "_law_signs"] 2 kF D mT (fun f cdv A outer s H F E hr => by
  have nd := mT.nd
  exact (Fl.aE (fA (L2.aJ (i := 4) nd rfl (Or.inl rfl) (eK bF)))
   (Fl.aE (Fl.cX (bK 5) (L2.cX (eE ⟨rfl, rfl⟩) rfl (fO (dR rfl T.b_range (aK (aC (pv 2)) aQ))) (bJ (i := 5) nd rfl (Or.inl rfl))
   (Fl.aS (Fl.eX (PW.pt (Fl.lO (Fl.dH xY rT (aA (aN (bX rfl) bD (aC (pv 1)) (aC (pv 5)))) (aA (d7 rfl (b7 cU rfl T.b_len PySem.boot_len (aK (aC (pv 0)) aQ)))) (cO _)) (Fl.lH (Fl.dH (hV rfl hr.units) fP (aA (aN bZ bL (aA (bA (bB rfl) aP (aC (pv 0)) (aA aD))) (aA aD))) (aA aD) (cO _))))) (Fl.aS (gU rfl (L2.fN (gO PySem.F.plainAttrs_list PySem.F.slot_list_append PySem.F.type_list_append eF (pv 4) (aK (d0 (cH rfl rfl rfl (cF c__law_digit_row (hr.mono (by decide)) rfl (cL fun _ _ _ h => h) (aF (aT (bA (bB rfl) aP (aC (pv 0)) (aA (aN (bX rfl) bD (aC (pv 1)) (aC (pv 5)))))) (aF (aU (pv 2)) (aF (aU (pv 3)) bH)))))) aQ))))) (Fl.aE (Fl.aJ (L2.aJ (i := 6) nd rfl (Or.inl rfl) (cH rfl rfl rfl (cF c__law_mixed_row (hr.mono (by decide)) rfl (cL fun _ _ _ h => h) (aF (aT (aN bZ bL (aA (d0 (cH rfl rfl rfl (cF c__law_cell (hr.mono (by decide)) rfl (cL fun _ _ _ h => h) (aF (aU (pv 0)) (aF (aT (aN (bX rfl) bD (aC (pv 1)) (aC (pv 5)))) bH)))))) (aA aD))) (aF (aU (pv 2)) (aF (aU (pv 3)) bH)))))))
   (Fl.aE (Fl.eX (PW.pt (Fl.lO (Fl.dH (hV rfl hr.units) fP (aC (pv 5)) (aA aD) (cO _)) (Fl.lO (Fl.jK (pJ (b7 (lX rfl (uZ _)) rfl T.b_isinstance PyProof.Rows.boot_isinstance (aK (aA (bA (bB rfl) aP (aC (pv 6)) (aA aD))) (aK (nA (v := .ty "str") rfl T.b_str PyProof.Rows.boot_str rfl) aQ))))) (Fl.lH (Fl.dH iU f9 (aA (aN bZ bL (aA (aN eZ dE (aA (d0 (cH rfl rfl rfl (cF c__law_cell (hr.mono (by decide)) rfl (cL fun _ _ _ h => h) (aF (aU (pv 0)) (aF (aU (pv 1)) bH)))))) (aA aD))) (aA aD))) (aA aD) (cO _)))))) (Fl.aS (Fl.aJ (L2.aJ (i := 6) nd rfl (Or.inl rfl) (aT (aN (bX rfl) bD (aA (dI (aM (aN bZ bL (aA (aN eZ dE (aA (d0 (cH rfl rfl rfl (cF c__law_cell (hr.mono (by decide)) rfl (cL fun _ _ _ h => h) (aF (aU (pv 0)) (aF (aU (pv 1)) bH)))))) (aA aD))) (aC (pv 2))) bF))) (aA (i7 rfl (aC (pv 6)) (oI (aA aD)) oH))))))) Fl.dB)
   (Fl.aS (gU rfl (L2.fN (gO PySem.F.plainAttrs_list PySem.F.slot_list_append PySem.F.type_list_append eF (pv 4) (aK (bY (pv 6)) aQ)))))))))))
   (Fl.aS (Fl.bT (aT (d8 rfl (b8 cI rfl T.b_tuple PyProof.Rows.boot_tuple (aK (aC (pv 4)) aQ)))))))))
theorem oX : FnScope ["_law_script", "_law_at", "_law_size", "_law_signs", "_law_number", "_law_strip_here", "_law_k"] ["_law_script", "_law_at", "_law_size", "_law_signs"] (aO (top 29)) := by constructor <;> first | rfl | decide +kernel
theorem wL (T : Txt w K mg) (D : DefAt K mg "_law_strip" (top 29) ["_law_script", "_law_at", "_law_size", "_law_signs"]) (c__law_cell : aX P w K mg base TH 1 "_law_cell" ["_law_script", "_law_k"] bM) : aX P w K mg base TH 2 "_law_strip" ["_law_script", "_law_at", "_law_size", "_law_signs"] eU :=
 @cY P w K mg base TH "_law_strip" (top 29) ["_law_script", "_law_at", "_law_size", "_law_signs", "_law_number", "_law_strip_here", "_law_k"] ["_law_script", "_law_at", "_law_size", "_law_signs"] 1 iD D oX (fun f cdv A outer s H F E hr => by
  have nd := oX.nd
  exact (Fl.aE (Fl.eX (PW.pt (Fl.lO (Fl.dH xY rT (aC (pv 1)) (aA (d7 rfl (b7 cU rfl T.b_len PySem.boot_len (aK (aC (pv 0)) aQ)))) (cO _)) (Fl.lH (Fl.dH (hV rfl hr.units) fP (aA (aN bZ bL (aA (bA (bB rfl) aP (aC (pv 0)) (aA aD))) (aA aD))) (aA aD) (cO _))))) (Fl.aE (Fl.aJ (L2.aJ (i := 4) nd rfl (Or.inl rfl) (aT (bA (bB rfl) aP (aC (pv 0)) (aC (pv 1))))))
   (Fl.aE (Fl.aJ (L2.aJ (i := 5) nd rfl (Or.inl rfl) (aT dG)))
   (Fl.aE (Fl.cX (bK 6) (L2.cX (eE ⟨rfl, rfl⟩) rfl (fO (dR rfl T.b_range (aK (aC (pv 2)) aQ))) (bJ (i := 6) nd rfl (Or.inl rfl))
   (Fl.aE (Fl.aJ (L2.aJ (i := 5) nd rfl (Or.inl rfl) (aT (aN (bX rfl) bD (aC (pv 5)) (aA (bA (bB rfl) aP (aA dG) (aA (aN bZ bL (aC (pv 4)) (aC (pv 3))))))))))
   (Fl.aS (Fl.aJ (L2.aJ (i := 4) nd rfl (Or.inl rfl) (aT (aN eZ dE (aC (pv 4)) (aC (pv 3))))))))))
   (Fl.aS (Fl.bT (aU (pv 5))))))) Fl.dB)
   (Fl.aS (Fl.bT (aT (aH5 rfl (gO PySem.F.plainAttrs_str PySem.F.slot_str_join PySem.F.type_str_join aHP (aA dG) (aK (aA (dW (fW (fV (N := ["_law_k", "_law_script", "_law_at", "_law_signs"]) (js := [none, some 0, some 1, some 3]) rfl (.own (.cap rfl (.inl rfl) (.inl rfl) (.cap rfl (.inl rfl) (.inl rfl) (.cap rfl (.inl rfl) (.inl rfl) .nil)))) (by rfl) (oF (fO (dR rfl T.b_range (aK (aC (pv 2)) aQ))))) (by decide) (by decide) (is := [0]) (fun cl C s0 H0 fp => ⟨_, (bJ (i := 0) (show (["_law_k", "_law_script", "_law_at", "_law_signs"] : List Str).Nodup by decide +kernel) rfl (Or.inl rfl)), (bK 0), Fl.dS, (bA (bB rfl) aP (aA dG) (aA (aN bZ bL (aA (d0 (cH rfl rfl rfl (cF c__law_cell (hr.mono (by decide)) rfl sY (aF (aU (pv 1)) (aF (aT (aN (bX rfl) bD (aC (pv 2)) (aC (pv 0)))) bH)))))) (aC (pv 3)))))⟩)))) aQ)) (by intro ρ x h; cases h; exact ⟨_, rfl⟩)))))))
theorem pY : FnScope ["_law_machine_here", "_law_strip_here", "_law_stand", "_law_place", "_law_room", "_law_left", "_law_cells", "_law_right", "_law_there", "_law_step_here"] ["_law_machine_here", "_law_strip_here", "_law_stand"] (aO (top 30)) := by constructor <;> first | rfl | decide +kernel
theorem zI (T : Txt w K mg) (D : DefAt K mg "_law_step" (top 30) ["_law_machine_here", "_law_strip_here", "_law_stand"]) : aX P w K mg base TH 1 "_law_step" ["_law_machine_here", "_law_strip_here", "_law_stand"] fM :=
 @cY P w K mg base TH "_law_step" (top 30) ["_law_machine_here", "_law_strip_here", "_law_stand", "_law_place", "_law_room", "_law_left", "_law_cells", "_law_right", "_law_there", "_law_step_here"] ["_law_machine_here", "_law_strip_here", "_law_stand"] 0 m5 D pY (fun f cdv A outer s H F E hr => by
  have nd := pY.nd
  exact (Fl.aE (tN (nK rfl (d9 (bK 3) (d9 (bK 4) lL)) rfl) (kN (bY (pv 2)) (nC rfl (d4 (bJ (i := 3) nd rfl (Or.inl rfl)) (d4 (bJ (i := 4) nd rfl (Or.inl rfl)) lI)))))
   (Fl.aE (tN (nK rfl (d9 (bK 5) (d9 (bK 6) (d9 (bK 7) lL))) rfl) (kN (bA (bB rfl) aP (aC (pv 0)) (aC (pv 4))) (nC rfl (d4 (bJ (i := 5) nd rfl (Or.inl rfl)) (d4 (bJ (i := 6) nd rfl (Or.inl rfl)) (d4 (bJ (i := 7) nd rfl (Or.inl rfl)) lI))))))
   (Fl.aE (Fl.eX (PW.pt (Fl.sN (Fl.dH (hV rfl hr.units) fP (aC (pv 3)) (aA aD) (cO _)) (Fl.sM (Fl.dH iU f9 (aC (pv 3)) (aA (d7 rfl (b7 cU rfl T.b_len PySem.boot_len (aK (aC (pv 1)) aQ)))) (cO _))))) (Fl.aE (Fl.aJ (L2.aJ (i := 8) nd rfl (Or.inl rfl) (aT (bA (bB rfl) aP (aA (dW (eK (aM (bY (pv 5)) (aM (bY (pv 7)) bF))))) (aA (jF (b8 gK rfl T.b_int PyProof.Rows.boot_int (aK (aA (iT iU f9 (aC (pv 3)) (aA aD) (cO _))) aQ))))))))
   (Fl.aE (Fl.eX (Fl.jK (pJ (b7 (lX rfl (uZ _)) rfl T.b_isinstance PyProof.Rows.boot_isinstance (aK (aC (pv 8)) (aK (nA (v := .ty "str") rfl T.b_str PyProof.Rows.boot_str rfl) aQ))))) (Fl.aS (Fl.bT (aT tE))) Fl.dB)
   (Fl.aS (Fl.bT (aT (dI (aM (bA (bB rfl) aP (aA (dW (eK (aM aD (aM (d7 rfl (b7 cU rfl T.b_len PySem.boot_len (aK (aC (pv 1)) aQ))) bF))))) (aA (jF (b8 gK rfl T.b_int PyProof.Rows.boot_int (aK (aA (iT iU f9 (aC (pv 3)) (aA aD) (cO _))) aQ))))) (aM (bY (pv 8)) bF)))))))) Fl.dB)
   (Fl.aE (tN (nK rfl (d9 (bK 8) (d9 (bK 9) lL)) rfl) (kN (bA (bB rfl) aP (aC (pv 6)) (aA (yC (gO PySem.F.plainAttrs_str PySem.F.slot_str_index PySem.F.type_str_index xI (aA dG) (aK (aA (bA (bB rfl) aP (aC (pv 1)) (aA (aN kB hU (aC (pv 3)) (aA aD))))) aQ)) (by intro ρ x h; cases h; exact ⟨_, rfl⟩)))) (nC rfl (d4 (bJ (i := 8) nd rfl (Or.inl rfl)) (d4 (bJ (i := 9) nd rfl (Or.inl rfl)) lI)))))
   (Fl.aS (Fl.bT (aT (dI (aM (aN (bX rfl) bD (aC (pv 3)) (aC (pv 9))) (aM (bY (pv 8)) bF)))))))))))
theorem nV : FnScope ["_law_machine_here", "_law_strip_here", "_law_stands_here", "_law_met", "_law_after"] ["_law_machine_here", "_law_strip_here"] (aO (top 31)) := by constructor <;> first | rfl | decide +kernel
theorem vL (T : Txt w K mg) (D : DefAt K mg "_law_stands" (top 31) ["_law_machine_here", "_law_strip_here"]) (c__law_step : aX P w K mg base TH 1 "_law_step" ["_law_machine_here", "_law_strip_here", "_law_stand"] fM) : aX P w K mg base TH 2 "_law_stands" ["_law_machine_here", "_law_strip_here"] gW :=
 @cY P w K mg base TH "_law_stands" (top 31) ["_law_machine_here", "_law_strip_here", "_law_stands_here", "_law_met", "_law_after"] ["_law_machine_here", "_law_strip_here"] 1 kX D nV (fun f cdv A outer s H F E hr => by
  have nd := nV.nd
  exact (Fl.aE (fA (L2.aJ (i := 2) nd rfl (Or.inl rfl) (eK (aM (dI (aM aD (aM aD bF))) bF))))
   (Fl.aE (u7 rfl (L2.aJ (i := 3) nd rfl (Or.inl rfl) u0))
   (Fl.aE (Fl.gL (L2.gL (eE ⟨rfl, rfl⟩) (tL rfl rfl (nE (yE hr.units) (bA (bB rfl) aP (aC (pv 2)) (aA (tG nJ kP (aA aD)))) (pv 3) (by with_unfolding_all rfl)))
   (Fl.aE (Fl.qK rfl rfl (kN wO (sO (pv 3) (bA (bB rfl) aP (aC (pv 2)) (aA (tG nJ kP (aA aD)))) (oM hr.units))))
   (Fl.aE (Fl.aJ (L2.aJ (i := 4) nd rfl (Or.inl rfl) (cH rfl rfl rfl (cF c__law_step (hr.mono (by decide)) rfl (cL fun _ _ _ h => h) (aF (aU (pv 0)) (aF (aU (pv 1)) (aF (aT (bA (bB rfl) aP (aC (pv 2)) (aA (tG nJ kP (aA aD))))) bH)))))))
   (Fl.aE (Fl.eX (Fl.dH aKV aFJ (aC (pv 4)) (aA tE) (cO _)) (Fl.aS (qI 2 (Fl.bT (aU (pv 2))))) Fl.dB)
   (Fl.aS (gU rfl (L2.fN (gO PySem.F.plainAttrs_list PySem.F.slot_list_append PySem.F.type_list_append eF (pv 2) (aK (bY (pv 4)) aQ))))))))))
   (Fl.aS (qI 2 (Fl.bT (aU (pv 2)))))))))
theorem pZ : FnScope ["_law_machine_here", "_law_strip_here", "_law_place", "_law_room"] ["_law_machine_here", "_law_strip_here"] (aO (top 32)) := by constructor <;> first | rfl | decide +kernel
theorem zJ (T : Txt w K mg) (D : DefAt K mg "_law_says" (top 32) ["_law_machine_here", "_law_strip_here"]) (c__law_stands : aX P w K mg base TH 2 "_law_stands" ["_law_machine_here", "_law_strip_here"] gW) (c__law_step : aX P w K mg base TH 1 "_law_step" ["_law_machine_here", "_law_strip_here", "_law_stand"] fM) : aX P w K mg base TH 3 "_law_says" ["_law_machine_here", "_law_strip_here"] gY :=
 @cY P w K mg base TH "_law_says" (top 32) ["_law_machine_here", "_law_strip_here", "_law_place", "_law_room"] ["_law_machine_here", "_law_strip_here"] 2 m6 D pZ (fun f cdv A outer s H F E hr => by
  have nd := pZ.nd
  exact (Fl.aE (tN (nK rfl (d9 (bK 2) (d9 (bK 3) lL)) rfl) (kN (bA (bB rfl) aP (aA (d0 (cH rfl rfl rfl (cF c__law_stands (hr.mono (by decide)) rfl (cL fun _ _ _ h => h) (aF (aU (pv 0)) (aF (aU (pv 1)) bH)))))) (aA (tG nJ kP (aA aD)))) (nC rfl (d4 (bJ (i := 2) nd rfl (Or.inl rfl)) (d4 (bJ (i := 3) nd rfl (Or.inl rfl)) lI)))))
   (Fl.aE (Fl.eX (Fl.dH aFK aBY (aA (d0 (cH rfl rfl rfl (cF c__law_step (hr.mono (by decide)) rfl (cL fun _ _ _ h => h) (aF (aU (pv 0)) (aF (aU (pv 1)) (aF (aT (dI (aM (bY (pv 2)) (aM (bY (pv 3)) bF)))) bH))))))) (aA tE) (cO _)) (Fl.aS (Fl.bT (aT dG))) Fl.dB)
   (Fl.aS (Fl.bT (aT (bA (bB rfl) aP (aA (dW (eK (aM (bA (bB rfl) aP (aA (bA (bB rfl) aP (aC (pv 0)) (aC (pv 3)))) (aA aD)) (aM (bA (bB rfl) aP (aA (bA (bB rfl) aP (aC (pv 0)) (aC (pv 3)))) (aA aD)) bF))))) (aA (jF (b8 gK rfl T.b_int PyProof.Rows.boot_int (aK (aA (iT iU f9 (aC (pv 2)) (aA aD) (cO _))) aQ)))))))))))
theorem nW : FnScope ["_law_script", "_law_at", "_law_rooms", "_law_signs", "_law_rows", "_law_left", "_law_cells", "_law_right"] ["_law_script", "_law_at", "_law_rooms", "_law_signs"] (aO (top 33)) := by constructor <;> first | rfl | decide +kernel
theorem vM (T : Txt w K mg) (D : DefAt K mg "_law_onward" (top 33) ["_law_script", "_law_at", "_law_rooms", "_law_signs"]) (c__law_machine : aX P w K mg base TH 3 "_law_machine" ["_law_script", "_law_at", "_law_rooms", "_law_signs"] dY) : aX P w K mg base TH 4 "_law_onward" ["_law_script", "_law_at", "_law_rooms", "_law_signs"] fG :=
 @cY P w K mg base TH "_law_onward" (top 33) ["_law_script", "_law_at", "_law_rooms", "_law_signs", "_law_rows", "_law_left", "_law_cells", "_law_right"] ["_law_script", "_law_at", "_law_rooms", "_law_signs"] 3 iS D nW (fun f cdv A outer s H F E hr => by
  have nd := nW.nd
  exact (Fl.aE (fA (L2.aJ (i := 4) nd rfl (Or.inl rfl) (eK bF)))
   (Fl.aE (Fl.cX (nK rfl (d9 (bK 5) (d9 (bK 6) (d9 (bK 7) lL))) rfl) (L2.cX (eE ⟨rfl, rfl⟩) rfl (x8 rfl (d0 (cH rfl rfl rfl (cF c__law_machine (hr.mono (by decide)) rfl (cL fun _ _ _ h => h) (aF (aU (pv 0)) (aF (aU (pv 1)) (aF (aU (pv 2)) (aF (aU (pv 3)) bH)))))))) (nC rfl (d4 (bJ (i := 5) nd rfl (Or.inl rfl)) (d4 (bJ (i := 6) nd rfl (Or.inl rfl)) (d4 (bJ (i := 7) nd rfl (Or.inl rfl)) lI))))
   (Fl.aS (gU rfl (L2.fN (gO PySem.F.plainAttrs_list PySem.F.slot_list_append PySem.F.type_list_append eF (pv 4) (aK (dI (aM (bY (pv 5)) (aM (d8 rfl (b8 cI rfl T.b_tuple PyProof.Rows.boot_tuple (aK (aA (dW (fW (fV (N := ["_law_cell_here"]) (js := [none]) rfl (.own .nil) (by rfl) (pD rfl (aC (pv 6)))) (by decide) (by decide) (is := [0]) (fun cl C s0 H0 fp => ⟨_, (bJ (i := 0) (show (["_law_cell_here"] : List Str).Nodup by decide +kernel) rfl (Or.inl rfl)), (bK 0), Fl.dS, (dI (aM (bA (bB rfl) aP (aC (pv 0)) (aA aD)) (aM aD bF)))⟩)))) aQ))) (aM (bY (pv 7)) bF)))) aQ)))))))
   (Fl.aS (Fl.bT (aT (d8 rfl (b8 cI rfl T.b_tuple PyProof.Rows.boot_tuple (aK (aC (pv 4)) aQ)))))))))
end
end Mc
namespace Mc
open PySem L2 PyProof.Rows Fl
section
variable {P : Program} {w : World} {K : Frag} {mg : Str -> Option Value} {base : Heap} {TH : Hp}
theorem mU : FnScope ["_law_cell_here", "_law_signs", "_law_first", "_law_second", "_law_due", "_law_rows", "_law_k", "_law_cells"] ["_law_cell_here", "_law_signs"] (aO (top 34)) := by constructor <;> first | rfl | decide +kernel
theorem uF (T : Txt w K mg) (D : DefAt K mg "_law_counter" (top 34) ["_law_cell_here", "_law_signs"]) : aX P w K mg base TH 1 "_law_counter" ["_law_cell_here", "_law_signs"] eW :=
 @cY P w K mg base TH "_law_counter" (top 34) ["_law_cell_here", "_law_signs", "_law_first", "_law_second", "_law_due", "_law_rows", "_law_k", "_law_cells"] ["_law_cell_here", "_law_signs"] 0 iG D mU (fun f cdv A outer s H F E hr => by
  have nd := mU.nd
  exact (Fl.aE (Fl.aJ (L2.aJ (i := 2) nd rfl (Or.inr rfl) (aT (aN (bX rfl) bD (aA aD) (aA (aN bZ bL (aC (pv 0)) (aA aD)))))))
   (Fl.aE (Fl.aJ (L2.aJ (i := 3) nd rfl (Or.inr rfl) (aT (aN (bX rfl) bD (aA aD) (aA (aN bZ bL (aA (aN eZ dE (aC (pv 0)) (aA aD))) (aA aD)))))))
   (Fl.aE (Fl.aJ (L2.aJ (i := 4) nd rfl (Or.inl rfl) (aT (aN bZ bL (aA (aN eZ dE (aC (pv 0)) (aA aD))) (aC (pv 2))))))
   (Fl.aE (fA (L2.aJ (i := 5) nd rfl (Or.inl rfl) (eK bF)))
   (Fl.aE (Fl.cX (bK 6) (L2.cX (eE ⟨rfl, rfl⟩) rfl (fO (dR rfl T.b_range (aK (aC (pv 2)) aQ))) (bJ (i := 6) nd rfl (Or.inr rfl))
   (Fl.aE (uW (L2.nY (i := 7) nd rfl (Or.inl rfl) (by rfl) (N := ["_law_sign", "_law_k", "_law_first"]) (js := [none, some 6, some 2]) rfl (.own (.cap rfl (.inl rfl) (.inl rfl) (.cap rfl (.inl rfl) (.inl rfl) .nil))) (by rfl) (oF (fO (dR rfl T.b_range (aK (aC (pv 1)) aQ))))) (by decide) (by decide) (is := [0]) (fun cl C s0 H0 fp => ⟨_, (bJ (i := 0) (show (["_law_sign", "_law_k", "_law_first"] : List Str).Nodup by decide +kernel) rfl (Or.inl rfl)), (bK 0), Fl.dS, (dI (aM (aN bZ bL (aA (aN (bX rfl) bD (aC (pv 1)) (aA (jF (b8 gK rfl T.b_int PyProof.Rows.boot_int (aK (aA (iT (hV rfl hr.units) fP (aC (pv 0)) (aA aD) (cO _))) aQ)))))) (aC (pv 2))) (aM aD bF)))⟩))
   (Fl.aS (gU rfl (L2.fN (gO PySem.F.plainAttrs_list PySem.F.slot_list_append PySem.F.type_list_append eF (pv 5) (aK (dI (aM (bA (bB rfl) aP (aA (dW (eK (aM aD (aM (bY (pv 6)) bF))))) (aA (jF (b8 gK rfl T.b_int PyProof.Rows.boot_int (aK (aA (iT iU f9 (aC (pv 6)) (aA aD) (cO _))) aQ))))) (aM (d8 rfl (b8 cI rfl T.b_tuple PyProof.Rows.boot_tuple (aK (aC (pv 7)) aQ))) (aM (bA (bB rfl) aP (aA (dW (eK (aM (bY (pv 2)) (aM dG bF))))) (aA (jF (b8 gK rfl T.b_int PyProof.Rows.boot_int (aK (aA (iT (xZ rfl hr.units) rW (aC (pv 6)) (aC (pv 4)) (cO _))) aQ))))) bF)))) aQ))))))))
   (Fl.aE (gU rfl (L2.fN (gO PySem.F.plainAttrs_list PySem.F.slot_list_append PySem.F.type_list_append eF (pv 5) (aK (dI (aM (aN (bX rfl) bD (aC (pv 2)) (aA aD)) (aM (d8 rfl (b8 cI rfl T.b_tuple PyProof.Rows.boot_tuple (aK (aA (dW (fW (fV (N := ["_law_sign", "_law_first"]) (js := [none, some 2]) rfl (.own (.cap rfl (.inl rfl) (.inl rfl) .nil)) (by rfl) (oF (fO (dR rfl T.b_range (aK (aC (pv 1)) aQ))))) (by decide) (by decide) (is := [0]) (fun cl C s0 H0 fp => ⟨_, (bJ (i := 0) (show (["_law_sign", "_law_first"] : List Str).Nodup by decide +kernel) rfl (Or.inl rfl)), (bK 0), Fl.dS, (dI (aM (bY (pv 1)) (aM (tG nJ kP (aA aD)) bF)))⟩)))) aQ))) (aM dG bF)))) aQ))))
   (Fl.aE (Fl.cX (bK 6) (L2.cX (eE ⟨rfl, rfl⟩) rfl (fO (dR rfl T.b_range (aK (aC (pv 3)) aQ))) (bJ (i := 6) nd rfl (Or.inr rfl))
   (Fl.aE (uW (L2.nY (i := 7) nd rfl (Or.inl rfl) (by rfl) (N := ["_law_sign", "_law_first", "_law_k", "_law_signs", "_law_second"]) (js := [none, some 2, some 6, some 1, some 3]) rfl (.own (.cap rfl (.inl rfl) (.inl rfl) (.cap rfl (.inl rfl) (.inl rfl) (.cap rfl (.inl rfl) (.inl rfl) (.cap rfl (.inl rfl) (.inl rfl) .nil))))) (by rfl) (oF (fO (dR rfl T.b_range (aK (aC (pv 1)) aQ))))) (by decide) (by decide) (is := [0]) (fun cl C s0 H0 fp => ⟨_, (bJ (i := 0) (show (["_law_sign", "_law_first", "_law_k", "_law_signs", "_law_second"] : List Str).Nodup by decide +kernel) rfl (Or.inl rfl)), (bK 0), Fl.dS, (dI (aM (aN (bX rfl) bD (aA (aN (bX rfl) bD (aC (pv 1)) (aA aD))) (aA (aN bZ bL (aA (aN (bX rfl) bD (aC (pv 2)) (aA (jF (b8 gK rfl T.b_int PyProof.Rows.boot_int (aK (aA (iT (hV rfl hr.units) fP (aC (pv 0)) (aA (aN kB hU (aC (pv 3)) (aA aD))) (cO _))) aQ)))))) (aC (pv 4))))) (aM aD bF)))⟩))
   (Fl.aS (gU rfl (L2.fN (gO PySem.F.plainAttrs_list PySem.F.slot_list_append PySem.F.type_list_append eF (pv 5) (aK (dI (aM (aN (bX rfl) bD (aA (aN (bX rfl) bD (aC (pv 2)) (aA aD))) (aC (pv 6))) (aM (d8 rfl (b8 cI rfl T.b_tuple PyProof.Rows.boot_tuple (aK (aC (pv 7)) aQ))) (aM (bA (bB rfl) aP (aA (dW (eK (aM dG (aM dG bF))))) (aA (jF (b8 gK rfl T.b_int PyProof.Rows.boot_int (aK (aA (iT iU f9 (aC (pv 6)) (aA aD) (cO _))) aQ))))) bF)))) aQ))))))))
   (Fl.aS (Fl.bT (aT (d8 rfl (b8 cI rfl T.b_tuple PyProof.Rows.boot_tuple (aK (aC (pv 5)) aQ))))))))))))))
theorem mV : FnScope ["_law_oneway", "_law_strip_here", "_law_at", "_law_told", "e"] ["_law_oneway", "_law_strip_here", "_law_at"] (aO (top 35)) := by constructor <;> first | rfl | decide +kernel
theorem uG (T : Txt w K mg) (D : DefAt K mg "_law_refused" (top 35) ["_law_oneway", "_law_strip_here", "_law_at"]) (c_word_by : aX P w K mg base TH 5 "word_by" ["reader", "strip"] fK) {W_NoStrip C_NoStrip : Addr} (er_NoStrip : ErrAt P w K mg base "NoStrip" ["at"] W_NoStrip C_NoStrip) : aX P w K mg base TH 6 "_law_refused" ["_law_oneway", "_law_strip_here", "_law_at"] dZ :=
 @cY P w K mg base TH "_law_refused" (top 35) ["_law_oneway", "_law_strip_here", "_law_at", "_law_told", "e"] ["_law_oneway", "_law_strip_here", "_law_at"] 5 iH D mV (fun f cdv A outer s H F E hr => by
  have nd := mV.nd
  exact (Fl.aE (Fl.aJ (L2.aJ (i := 3) nd rfl (Or.inl rfl) (aT tE)))
   (Fl.aE (aIH (i := 4) rfl rfl ⟨rfl, rfl⟩ nd rfl rfl rfl er_NoStrip.m er_NoStrip.c.any (yI er_NoStrip) (fun pn σ E1 => aK9 c_word_by (hr.mono (by decide)) rfl (aF (aU (pv 0)) (aF (aU (pv 1)) bH))) (fun e1 => (Fl.aS (Fl.aJ (L2.aJ (i := 3) nd rfl (Or.inl rfl) (aT (aM8 rfl rfl (aD5 er_NoStrip (by decide)) (aHM (pv 4) rfl))))))))
   (Fl.aS (Fl.bT (aT (aKX (pJ (b7 (lX rfl (aAM _)) rfl T.b_isinstance PyProof.Rows.boot_isinstance (aK (aC (pv 3)) (aK (nA (v := .ty "int") rfl T.b_int PyProof.Rows.boot_int rfl) aQ)))) (aKW (iT (hV rfl hr.units) fP (aC (pv 3)) (aC (pv 2)) (cO _))))))))))
theorem aEO : FnScope ["_law_script", "_law_kind", "_law_signs", "_law_rooms", "_law_machine_here", "_law_strip_here", "_law_oneway", "_law_strips", "_law_sign", "_law_some", "_law_word", "_law_room"] ["_law_script"] (aO (top 36)) := by constructor <;> first | rfl | decide +kernel
theorem aME (T : Txt w K mg) {fL : Addr} {fdL : FuncData} (FL : Fun K "law" "law" (top 36) fL fdL) (c__law_cell : aX P w K mg base TH 1 "_law_cell" ["_law_script", "_law_k"] bM) (c__law_machine : aX P w K mg base TH 3 "_law_machine" ["_law_script", "_law_at", "_law_rooms", "_law_signs"] dY) (c__law_onward : aX P w K mg base TH 4 "_law_onward" ["_law_script", "_law_at", "_law_rooms", "_law_signs"] fG) (c__law_counter : aX P w K mg base TH 1 "_law_counter" ["_law_cell_here", "_law_signs"] eW) (c__law_strip : aX P w K mg base TH 2 "_law_strip" ["_law_script", "_law_at", "_law_size", "_law_signs"] eU) (c_one_way : aX P w K mg base TH 14 "one_way" ["machine"] jH) (c__law_says : aX P w K mg base TH 3 "_law_says" ["_law_machine_here", "_law_strip_here"] gY) (c_room_by : aX P w K mg base TH 4 "room_by" ["reader", "strip"] fZ) (c_word_by : aX P w K mg base TH 5 "word_by" ["reader", "strip"] fK) (c__law_refused : aX P w K mg base TH 6 "_law_refused" ["_law_oneway", "_law_strip_here", "_law_at"] dZ) : FnOk P w K mg base (CXe P w) 15 fL fdL ["_law_script"] (spF (gOf P w K mg base TH) K mg 1 aCG) :=
 @aK2 P w K mg base TH "law" (top 36) ["_law_script", "_law_kind", "_law_signs", "_law_rooms", "_law_machine_here", "_law_strip_here", "_law_oneway", "_law_strips", "_law_sign", "_law_some", "_law_word", "_law_room"] ["_law_script"] 14 fL fdL aCF FL aEO (fun cdv A outer s H F E hr => by
  have nd := aEO.nd
  exact (Fl.aE (Fl.aJ (L2.aJ (i := 1) nd rfl (Or.inl rfl) (aT (aN bZ bL (aA (d0 (cH rfl rfl rfl (cF c__law_cell (hr.mono (by decide)) rfl (cL fun _ _ _ h => h) (aF (aU (pv 0)) (aF (aT aD) bH)))))) (aA aD)))))
   (Fl.aE (Fl.aJ (L2.aJ (i := 2) nd rfl (Or.inl rfl) (aT (aN (bX rfl) bD (aA aD) (aA (aN bZ bL (aA (d0 (cH rfl rfl rfl (cF c__law_cell (hr.mono (by decide)) rfl (cL fun _ _ _ h => h) (aF (aU (pv 0)) (aF (aT aD) bH)))))) (aA aD)))))))
   (Fl.aE (Fl.aJ (L2.aJ (i := 3) nd rfl (Or.inl rfl) (aT aD)))
   (Fl.aE (Fl.aJ (L2.aJ (i := 4) nd rfl (Or.inl rfl) (cH rfl rfl rfl (cF c__law_machine (hr.mono (by decide)) rfl (cL fun _ _ _ h => h) (aF (aU (pv 0)) (aF (aT aD) (aF (aT aD) (aF (aU (pv 2)) bH))))))))
   (Fl.aE (Fl.eX (Fl.dH (hV rfl hr.units) fP (aC (pv 1)) (aA aD) (cO _)) (Fl.aE (Fl.aJ (L2.aJ (i := 3) nd rfl (Or.inl rfl) (aT (aN (bX rfl) bD (aA aD) (aA (aN bZ bL (aA (d0 (cH rfl rfl rfl (cF c__law_cell (hr.mono (by decide)) rfl (cL fun _ _ _ h => h) (aF (aU (pv 0)) (aF (aT aD) bH)))))) (aA aD)))))))
   (Fl.aS (Fl.aJ (L2.aJ (i := 4) nd rfl (Or.inl rfl) (cH rfl rfl rfl (cF c__law_onward (hr.mono (by decide)) rfl (cL fun _ _ _ h => h) (aF (aU (pv 0)) (aF (aT aD) (aF (aU (pv 3)) (aF (aU (pv 2)) bH)))))))))) Fl.dB)
   (Fl.aE (Fl.eX (Fl.dH (hV rfl hr.units) fP (aC (pv 1)) (aA aD) (cO _)) (Fl.aS (Fl.aJ (L2.aJ (i := 4) nd rfl (Or.inl rfl) (cH rfl rfl rfl (cF c__law_counter (hr.mono (by decide)) rfl (cL fun _ _ _ h => h) (aF (aT (aN bZ bL (aA (d0 (cH rfl rfl rfl (cF c__law_cell (hr.mono (by decide)) rfl (cL fun _ _ _ h => h) (aF (aU (pv 0)) (aF (aT aD) bH)))))) (aA aD))) (aF (aU (pv 2)) bH))))))) Fl.dB)
   (Fl.aE (Fl.aJ (L2.aJ (i := 5) nd rfl (Or.inr rfl) (cH rfl rfl rfl (cF c__law_strip (hr.mono (by decide)) rfl (cL fun _ _ _ h => h) (aF (aU (pv 0)) (aF (aT (aN (bX rfl) bD (aA aD) (aC (pv 3)))) (aF (aT (aD0 (G := u9) (b7 (aCV rfl) rfl T.b_max PyProof.Rows.boot_max (aK (aA aD) (aK (aA (aD0 (G := vA) (b7 (aCW rfl) rfl T.b_min PyProof.Rows.boot_min (aK (aA aD) (aK (aA (aN kB hU (aA (aN kB hU (aA (d7 rfl (b7 cU rfl T.b_len PySem.boot_len (aK (aC (pv 0)) aQ)))) (aA aD))) (aC (pv 3)))) aQ))))) aQ))))) (aF (aU (pv 2)) bH))))))))
   (Fl.aE (Fl.aJ (L2.aJ (i := 6) nd rfl (Or.inl rfl) (cH rfl rfl rfl (cF c_one_way (hr.mono (by decide)) rfl (cL fun _ _ _ h => h) (aF (aU (pv 4)) bH)))))
   (Fl.aE (fA (L2.aJ (i := 7) nd rfl (Or.inl rfl) (aD2 rfl (aA (dW (fW (fV (N := ["_law_k", "_law_strip_here"]) (js := [none, some 5]) rfl (.own (.cap rfl (.inl rfl) (.inl rfl) .nil)) (by rfl) (oF (fO (dR rfl T.b_range (aK (aA (aN (bX rfl) bD (aA (d7 rfl (b7 cU rfl T.b_len PySem.boot_len (aK (aC (pv 5)) aQ)))) (aA aD))) aQ))))) (by decide) (by decide) (is := [0]) (fun cl C s0 H0 fp => ⟨_, (bJ (i := 0) (show (["_law_k", "_law_strip_here"] : List Str).Nodup by decide +kernel) rfl (Or.inl rfl)), (bK 0), Fl.dS, (i7 rfl (aC (pv 1)) oH (oI (aC (pv 0))))⟩)))) (aA (dW (aFY (b8 (zU rfl) rfl T.b_list PyProof.Rows.boot_list (aK (aA (i7 rfl (aA dG) oH (oI (aC (pv 2))))) aQ))))))))
   (Fl.aE (Fl.cX (bK 8) (L2.cX (eE ⟨rfl, rfl⟩) rfl (x8 rfl (i7 rfl (aA dG) oH (oI (aC (pv 2))))) (bJ (i := 8) nd rfl (Or.inr rfl))
   (Fl.aS (fA (L2.aJ (i := 7) nd rfl (Or.inl rfl) (aD2 rfl (aC (pv 7)) (aA (dW (fW (fV (N := ["_law_more", "_law_sign"]) (js := [none, some 8]) rfl (.own (.cap rfl (.inl rfl) (.inl rfl) .nil)) (by rfl) (pD rfl (aA (i7 rfl (aA dG) oH (oI (aC (pv 2))))))) (by decide) (by decide) (is := [0]) (fun cl C s0 H0 fp => ⟨_, (bJ (i := 0) (show (["_law_more", "_law_sign"] : List Str).Nodup by decide +kernel) rfl (Or.inl rfl)), (bK 0), Fl.dS, (aN (bX rfl) bD (aC (pv 1)) (aC (pv 0)))⟩))))))))))
   (Fl.aE (qI 7 (Fl.cX (bK 9) (L2.cX (eE ⟨rfl, rfl⟩) rfl (x8 rfl (bY (pv 7))) (bJ (i := 9) nd rfl (Or.inl rfl))
   (Fl.aE (Fl.aJ (L2.aJ (i := 10) nd rfl (Or.inl rfl) (cH rfl rfl rfl (cF c__law_says (hr.mono (by decide)) rfl (cL fun _ _ _ h => h) (aF (aU (pv 4)) (aF (aU (pv 9)) bH))))))
   (Fl.aE (Fl.aJ (L2.aJ (i := 11) nd rfl (Or.inl rfl) (cH rfl rfl rfl (cF c_room_by (hr.mono (by decide)) rfl (cL fun _ _ _ h => h) (aF (aU (pv 6)) (aF (aU (pv 9)) bH))))))
   (Fl.aS (Fl.eX (PW.pt (Fl.sN (Fl.dH (xZ rfl hr.units) rW (aA (d0 (cH rfl rfl rfl (cF c_word_by (hr.mono (by decide)) rfl (cL fun _ _ _ h => h) (aF (aU (pv 6)) (aF (aU (pv 9)) bH)))))) (aC (pv 10)) (cO _)) (Fl.sN (Fl.nB (Fl.jK (pJ (b7 (lX rfl (aAM _)) rfl T.b_isinstance PyProof.Rows.boot_isinstance (aK (aC (pv 11)) (aK (nA (v := .ty "int") rfl T.b_int PyProof.Rows.boot_int rfl) aQ)))))) (Fl.sM (Fl.dH (xZ rfl hr.units) rW (aA (bA (bB rfl) aP (aA (bA (bB rfl) aP (aC (pv 6)) (aA aD))) (aC (pv 11)))) (aC (pv 10)) (cO _)))))) (Fl.aS (Fl.bT (aT wO))) Fl.dB)))))))
   (Fl.aS (Fl.bT (cH rfl rfl rfl (cF c__law_refused (hr.mono (by decide)) rfl (cL fun _ _ _ h => h) (aF (aU (pv 6)) (aF (aT (aN (bX rfl) bD (aA (aN (bX rfl) bD (aC (pv 5)) (aA (bA (bB rfl) aP (aA dG) (aC (pv 2)))))) (aA dG))) (aF (aT (d7 rfl (b7 cU rfl T.b_len PySem.boot_len (aK (aC (pv 5)) aQ)))) bH)))))))))))))))))))
end
end Mc
namespace Mc
open PySem L2 PyProof.Rows Fl
def p4 (r : Rw) : Rw := ⟨r.l, r.c.map fun c => (c.1, 1), r.r⟩
theorem aF8 {n : Int} {r : Rw} (h : r.good n) : (p4 r).good n := ⟨h.1, h.2.1, fun c hc => by
 obtain ⟨d, hd, rfl⟩ := List.mem_map.mp hc
 have := h.2.2 d hd
 exact ⟨this.1, this.2.1, .inl rfl⟩⟩
theorem zK {rs : List Rw} {sg : Nat} (M : Mach rs sg) : Mach (rs.map p4) sg where
 len := by rw [List.length_map]; exact M.len
 len2 := by rw [List.length_map]; exact M.len2
 sg1 := M.sg1
 sg3 := M.sg3
 row := fun r hr => by
  obtain ⟨s, hs, rfl⟩ := List.mem_map.mp hr
  rw [List.length_map]
  exact ⟨aF8 (M.row s hs).1, by show (s.c.map _).length = sg; rw [List.length_map]; exact (M.row s hs).2⟩
theorem aJG {rs : List Rw} {sg : Nat} (M : Mach rs sg) (h9 : rs.length <= 40) : m8 (rs.map p4) sg := aCE (zK M) (by rw [List.length_map]; exact h9) fun r hr k hk => by
 obtain ⟨s, hs, rfl⟩ := List.mem_map.mp hr
 have hl := (M.row s hs).2
 unfold ck p4
 rw [List.getD_eq_getElem?_getD, List.getElem?_map, List.getElem?_eq_getElem (by omega)]; rfl
noncomputable def onB : Sg -> R Fw := (eI 4 (cV (aB (eV 5) (aB (e1 dTup (eL (dJ [none] (e1 cJ (rV 6)) (stN 0) eS (cV (aB (e2 dIx (rV 0) (eC (.int 0))) (aB (eC (.int 1)) aL)))))) (aB (eV 7) aL)))))
theorem aNL {ns : List Int} {at' : Int} {n sg : Nat} (hat : 0 <= at') (h1 : 1 <= n) (h2 : n <= 40) (s1 : 1 <= sg) (s3 : sg <= 3) : ∃ rs : List Rw, fG [.d (d3 ns), .d (.int at'), .d (.int n), .d (.int sg)] = .ok (.d (cM rs)) /\ Mach rs sg /\ rs.length = n /\ m8 rs sg := by
 obtain ⟨rs, e, M, hl⟩ := aEG (ns := ns) (at' := at') (n := n) (sg := sg) hat h1 (by omega) s1 s3
 refine ⟨rs.map p4, ?_, zK M, by rw [List.length_map]; exact hl, aJG M (by omega)⟩
 obtain ⟨ρ', q1, q2⟩ := fQ (fs := stT [(stN 5), (stN 6), (stN 7)]) (fb := onB) (d := bU) (xs := rs) (ρ := [some (.d (d3 ns)), some (.d (.int at')), some (.d (.int n)), some (.d (.int sg)), some (.l []), none, none, none])
  (fun i ρ => ∃ u v w, ρ = [some (.d (d3 ns)), some (.d (.int at')), some (.d (.int n)), some (.d (.int sg)), some (.l ((rs.take i).map fun r => bU (p4 r))), u, v, w]) ⟨none, none, none, rfl⟩ fun i r ρ hr zz0 => by
  obtain ⟨u, v, w, e⟩ := zz0
  have hi : i < rs.length := by
   rcases Nat.lt_or_ge i rs.length with h | h
   · exact h
   · rw [List.getElem?_eq_none h] at hr; cases hr
  have hcl := (M.row r (List.mem_of_getElem? hr)).2
  have hc := dM (fs := stN 0) (fe := cV (aB (e2 dIx (rV 0) (eC (.int 0))) (aB (eC (.int 1)) aL))) (ρ0 := [none]) (d := cG) (g := fun c : Int × Int => cG (c.1, 1)) (xs := r.c) fun c hc => ⟨_, rfl, by simp [cG]⟩
  have hit := r6 (xs := r.c.map cG) (by rw [List.length_map]; omega)
  have ht : rs.take (i + 1) = rs.take i ++ [r] := by rw [List.take_succ, hr]; rfl
  have hlt : (rs.take i).length < 16777216 := by rw [List.length_take]; omega
  have hlt' : min i rs.length < 16777216 := by omega
  refine ⟨[some (.d (d3 ns)), some (.d (.int at')), some (.d (.int n)), some (.d (.int sg)), some (.l ((rs.take i).map fun r => bU (p4 r))), some (.d r.l.d), some (.d (.tuple (r.c.map cG))), some (.d r.r.d)], _, by rw [e]; simp [bU], .inl ?_, some (.d r.l.d), some (.d (.tuple (r.c.map cG))), some (.d r.r.d), rfl⟩
  rw [ht, List.map_append]
  simp [onB, hit, fJ, hc, hlt', bU, p4]
 obtain ⟨u, v, w, rfl⟩ := q2
 rw [List.take_length] at q1
 have hit := t4 M
 unfold fG iS
 change fnF 8 (aH _ (aH (gA _ _ onB) _)) _ = _
 simp [e, hit, q1]
 unfold cM
 rw [List.map_map]; rfl
def zL (p i k : Nat) : Int × Int := ((((i + (if k = 0 then 1 else 0)) % p : Nat) : Int), 1)
def zM (p q sg j k : Nat) : Int × Int := (((p + 1 + (j + (if k = sg - 1 then 1 else 0)) % q : Nat) : Int), 1)
def aCN (p aim i : Nat) : Tn := if i ≠ aim then .w "out" else .n (p : Int)
def aCO (j : Nat) : Tn := if 0 < j then .w "out" else .w "by"
def mB (p sg aim i : Nat) : Rw := ⟨.n (i : Int), (List.range sg).map (zL p i), aCN p aim i⟩
def rowM (p sg : Nat) : Rw := ⟨.n ((p : Int) + 1), (List.range sg).map fun _ => ((p : Int), -1), .w "out"⟩
def p6 (p q sg j : Nat) : Rw := ⟨.n ((p : Int) + 1 + j), (List.range sg).map (zM p q sg j), aCO j⟩
def kH (p q sg aim : Nat) : List Rw := (List.range p).map (mB p sg aim) ++ (rowM p sg :: (List.range q).map (p6 p q sg))
theorem zN {rs : List Rw} {i : Nat} {r : Rw} (h : rs[i]? = some r) : aV rs (i : Int) = r := by
 have hi : i < rs.length := by
  rcases Nat.lt_or_ge i rs.length with h' | h'
  · exact h'
  · rw [List.getElem?_eq_none h'] at h; cases h
 have := c9 (rs := rs) (q := (i : Int)) (by omega) (by omega)
 rw [show ((i : Int).toNat) = i by omega, h] at this
 injection this with this; exact this.symm
theorem zO {sg k : Nat} {f : Nat -> Int × Int} {l r : Tn} (hk : k < sg) : ck k ⟨l, (List.range sg).map f, r⟩ = f k := by
 unfold ck
 rw [List.getD_eq_getElem?_getD, List.getElem?_map, List.getElem?_range hk]; rfl
theorem aG2 {p q sg aim i : Nat} (h : i < p) : aV (kH p q sg aim) (i : Int) = mB p sg aim i := zN (by
 unfold kH
 rw [List.getElem?_append_left (by simp; exact h), List.getElem?_map, List.getElem?_range h]; rfl)
theorem aG3 {p q sg aim : Nat} : aV (kH p q sg aim) (p : Int) = rowM p sg := zN (by
 unfold kH
 rw [List.getElem?_append_right (by simp)]; simp)
theorem aNM {p q sg aim j : Nat} (h : j < q) : aV (kH p q sg aim) ((p + 1 + j : Nat) : Int) = p6 p q sg j := zN (by
 unfold kH
 rw [List.getElem?_append_right (by simp; omega), List.length_map, List.length_range, show p + 1 + j - p = j + 1 by omega, List.getElem?_cons_succ, List.getElem?_map, List.getElem?_range h]; rfl)
theorem qW {p q sg aim : Nat} : (kH p q sg aim).length = p + 1 + q := by unfold kH; simp; omega
theorem aJH {p q sg aim : Nat} (p1 : 1 <= p) (p5 : p <= 5) (q1 : 1 <= q) (q5 : q <= 5) : Ctr (kH p q sg aim) sg p q where
 len := qW
 p1 := p1
 p5 := p5
 q1 := q1
 q5 := q5
 lef := by rw [show (0 : Int) = ((0 : Nat) : Int) from rfl, aG2 (by omega)]; rfl
 mid := by rw [aG3]; rfl
 a i hi k hk := by rw [aG2 hi]; exact zO hk
 b k hk := by rw [aG3]; exact zO hk
 c j hj k hk := by rw [aNM hj]; exact zO hk
theorem aF9 {p q sg aim : Nat} (p1 : 1 <= p) (p5 : p <= 5) (q1 : 1 <= q) (q5 : q <= 5) (s1 : 1 <= sg) (s3 : sg <= 3) : Mach (kH p q sg aim) sg where
 len := by rw [qW]; omega
 len2 := by rw [qW]; omega
 sg1 := s1
 sg3 := s3
 row := fun r hr => by
  rw [qW]
  have hp : ∀ x, x % p < p := fun x => Nat.mod_lt _ (by omega)
  have hq : ∀ x, x % q < q := fun x => Nat.mod_lt _ (by omega)
  unfold kH at hr
  rcases List.mem_append.mp hr with h | h
  ·obtain ⟨i, hi, rfl⟩ := List.mem_map.mp h
   have hi := List.mem_range.mp hi
   refine ⟨⟨⟨by omega, by omega⟩, ?_, fun c hc => ?_⟩, by unfold mB; simp⟩
   ·show Tn.good _ (if i ≠ aim then .w "out" else .n (p : Int))
    split
    ·exact .inr rfl
    ·exact ⟨by omega, by omega⟩
   ·obtain ⟨k, _, rfl⟩ := List.mem_map.mp hc
    have := hp (i + (if k = 0 then 1 else 0))
    exact ⟨by show (0 : Int) <= ((_ : Nat) : Int); omega, by show (((i + (if k = 0 then 1 else 0)) % p : Nat) : Int) < _; omega, .inl rfl⟩
  ·rcases List.mem_cons.mp h with rfl | h
   ·refine ⟨⟨⟨by omega, by omega⟩, .inr rfl, fun c hc => ?_⟩, by unfold rowM; simp⟩
    obtain ⟨k, _, rfl⟩ := List.mem_map.mp hc
    exact ⟨by show (0 : Int) <= (p : Int); omega, by show (p : Int) < _; omega, .inr rfl⟩
   ·obtain ⟨j, hj, rfl⟩ := List.mem_map.mp h
    have hj := List.mem_range.mp hj
    refine ⟨⟨⟨by omega, by omega⟩, ?_, fun c hc => ?_⟩, by unfold p6; simp⟩
    ·show Tn.good _ (if 0 < j then .w "out" else .w "by")
     split
     · exact .inr rfl
     · exact .inl rfl
    ·obtain ⟨k, _, rfl⟩ := List.mem_map.mp hc
     have := hq (j + (if k = sg - 1 then 1 else 0))
     exact ⟨by show (0 : Int) <= ((_ : Nat) : Int); omega, by show ((p + 1 + (j + (if k = sg - 1 then 1 else 0)) % q : Nat) : Int) < _; omega, .inl rfl⟩
end Mc
namespace Mc
open PySem L2 PyProof.Rows Fl
theorem aOW {a b : PyData} (c : Prop) [Decidable c] : dIx (.list [a, b]) (.int (if c then 1 else 0)) = .ok (if c then b else a) := by
 by_cases h : c
 · simp only [if_pos h]; rfl
 · simp only [if_neg h]; rfl
noncomputable def cA : Sg -> R Fw := (aH (dC 7 (dJ [none, some 6, some 2] (dD (rV 1)) (stN 0) eS (cV (aB (e2 dMod (e2 bE (rV 1) (e1 dInt (e2 dEq (rV 0) (eC (.int 0))))) (rV 2)) (aB (eC (.int 1)) aL)))))
 (eI 5 (cV (aB (e2 dIx (eL (d6 (aB (eC (.int 0)) (aB (eV 6) aL)))) (e1 dInt (e2 dGt (rV 6) (eC (.int 0))))) (aB (e1 dTup (rV 7)) (aB (e2 dIx (eL (d6 (aB (eV 2) (aB (eC (.str "out")) aL)))) (e1 dInt (e2 dNe (rV 6) (rV 4)))) aL))))))
noncomputable def cC : Sg -> R Fw := (aH (dC 7 (dJ [none, some 2, some 6, some 1, some 3] (dD (rV 1)) (stN 0) eS (cV (aB (e2 bE (e2 bE (rV 1) (eC (.int 1))) (e2 dMod (e2 bE (rV 2) (e1 dInt (e2 dEq (rV 0) (e2 dSub (rV 3) (eC (.int 1)))))) (rV 4))) (aB (eC (.int 1)) aL)))))
 (eI 5 (cV (aB (e2 bE (e2 bE (rV 2) (eC (.int 1))) (rV 6)) (aB (e1 dTup (rV 7)) (aB (e2 dIx (eL (d6 (aB (eC (.str "by")) (aB (eC (.str "out")) aL)))) (e1 dInt (e2 dGt (rV 6) (eC (.int 0))))) aL))))))
noncomputable def cρ (v : Int) (p q sg aim : Nat) (xs : List PyData) (u w : Option A) : Sg := [some (.d (.int v)), some (.d (.int (sg : Int))), some (.d (.int (p : Int))), some (.d (.int (q : Int))), some (.d (.int (aim : Int))), some (.l xs), u, w]
theorem aMF (p sg aim i : Nat) : bU (mB p sg aim i) = .tuple [.int (i : Int), .tuple ((List.range sg).map fun k => cG (zL p i k)), (aCN p aim i).d] := by
 unfold bU mB
 simp only [List.map_map]; rfl
theorem aMG (p q sg j : Nat) : bU (p6 p q sg j) = .tuple [.int ((p : Int) + 1 + j), .tuple ((List.range sg).map fun k => cG (zM p q sg j k)), (aCO j).d] := by
 unfold bU p6
 simp only [List.map_map]; rfl
theorem aEP (p sg : Nat) : bU (rowM p sg) = .tuple [.int ((p : Int) + 1), .tuple ((List.range sg).map fun _ => cG ((p : Int), -1)), .str "out"] := by
 unfold bU rowM
 simp only [List.map_map]; rfl
theorem aMH (p i k : Nat) : cG (zL p i k) = .tuple [.int (((i + (if k = 0 then 1 else 0)) % p : Nat) : Int), .int 1] := rfl
theorem aMI (p q sg j k : Nat) : cG (zM p q sg j k) = .tuple [.int ((p + 1 + (j + (if k = sg - 1 then 1 else 0)) % q : Nat) : Int), .int 1] := rfl
theorem aNN {v : Int} {p q sg aim i : Nat} {xs : List PyData} {w : Option A} (hp : 1 <= p) (s3 : sg <= 3) (hx : xs.length < 16777216) : ∃ w', cA (cρ v p q sg aim xs (some (.d (.int (i : Int)))) w) = .ok (.nx (cρ v p q sg aim (xs ++ [bU (mB p sg aim i)]) (some (.d (.int (i : Int)))) w')) := by
 have hr := eH (n := sg) (by omega)
 have hc := dM (fs := stN 0) (fe := cV (aB (e2 dMod (e2 bE (rV 1) (e1 dInt (e2 dEq (rV 0) (eC (.int 0))))) (rV 2)) (aB (eC (.int 1)) aL))) (ρ0 := [none, some (.d (.int (i : Int))), some (.d (.int (p : Int)))]) (d := fun k : Nat => .int (k : Int)) (g := fun k : Nat => cG (zL p i k)) (xs := List.range sg) fun k hk => ⟨_, rfl, by
  rw [aMH]
  generalize hy : (((i + (if k = 0 then 1 else 0)) % p : Nat) : Int) = y
  by_cases h : k = 0
  ·subst h
   have hm : dMod (.int ((i : Int) + 1)) (.int (p : Int)) = .ok (.int y) := by rw [cK (by omega), <- hy]; simp
   simp [cZ, hm]
  ·have hm : dMod (.int (i : Int)) (.int (p : Int)) = .ok (.int y) := by rw [cK (by omega), <- hy]; simp [h]
   simp [cZ, h, hm]⟩
 have pk : dIx (.list [.int 0, .int (i : Int)]) (.int (if 0 < i then 1 else 0)) = .ok (.int (i : Int)) := by
  rw [aOW]
  by_cases h : 0 < i
  ·rw [if_pos h]
  ·rw [if_neg h, show i = 0 by omega]; rfl
 have pk2 : dIx (.list [.int (p : Int), .str "out"]) (.int (if (i : Int) = (aim : Int) then 0 else 1)) = .ok (aCN p aim i).d := by
  unfold aCN
  by_cases h : i = aim
  ·rw [if_pos (by omega), if_neg (by omega)]; rfl
  ·rw [if_neg (by omega), if_pos h]; rfl
 refine ⟨some (.l ((List.range sg).map fun k : Nat => cG (zL p i k))), ?_⟩
 rw [aMF]
 simp [cA, cρ, hr, fJ, hc, hx, aL6, pk, pk2]
theorem aNO {v : Int} {p q sg aim j : Nat} {xs : List PyData} {w : Option A} (hq : 1 <= q) (s1 : 1 <= sg) (s3 : sg <= 3) (hx : xs.length < 16777216) : ∃ w', cC (cρ v p q sg aim xs (some (.d (.int (j : Int)))) w) = .ok (.nx (cρ v p q sg aim (xs ++ [bU (p6 p q sg j)]) (some (.d (.int (j : Int)))) w')) := by
 have hr := eH (n := sg) (by omega)
 have hc := dM (fs := stN 0) (fe := cV (aB (e2 bE (e2 bE (rV 1) (eC (.int 1))) (e2 dMod (e2 bE (rV 2) (e1 dInt (e2 dEq (rV 0) (e2 dSub (rV 3) (eC (.int 1)))))) (rV 4))) (aB (eC (.int 1)) aL))) (ρ0 := [none, some (.d (.int (p : Int))), some (.d (.int (j : Int))), some (.d (.int (sg : Int))), some (.d (.int (q : Int)))]) (d := fun k : Nat => .int (k : Int)) (g := fun k : Nat => cG (zM p q sg j k)) (xs := List.range sg) fun k hk => ⟨_, rfl, by
  rw [aMI]
  generalize hy : ((p + 1 + (j + (if k = sg - 1 then 1 else 0)) % q : Nat) : Int) = y
  generalize hb : (((j + (if k = sg - 1 then 1 else 0)) % q : Nat) : Int) = b
  have hyb : (p : Int) + 1 + b = y := by rw [<- hy, <- hb]; omega
  by_cases h : k = sg - 1
  ·have h' : (k : Int) = (sg : Int) - 1 := by omega
   have hm : dMod (.int ((j : Int) + 1)) (.int (q : Int)) = .ok (.int b) := by rw [cK (by omega), <- hb, if_pos h]; simp
   simp [cZ, h', hm, hyb]
  ·have h' : ¬ (k : Int) = (sg : Int) - 1 := by omega
   have hm : dMod (.int (j : Int)) (.int (q : Int)) = .ok (.int b) := by rw [cK (by omega), <- hb, if_neg h]; simp
   simp [cZ, h', hm, hyb]⟩
 have pk2 : dIx (.list [.str "by", .str "out"]) (.int (if 0 < j then 1 else 0)) = .ok (aCO j).d := by
  unfold aCO
  by_cases h : 0 < j
  ·rw [if_pos h, if_pos h]; rfl
  ·rw [if_neg h, if_neg h]; rfl
 refine ⟨some (.l ((List.range sg).map fun k : Nat => cG (zM p q sg j k))), ?_⟩
 rw [aMG]
 simp [cC, cρ, hr, fJ, hc, hx, pk2]
theorem aNP {v : Int} {sg : Nat} (hv : 0 <= v) (s1 : 1 <= sg) (s3 : sg <= 3) : ∃ rs : List Rw, eW [.d (.int v), .d (.int sg)] = .ok (.d (cM rs)) /\ Mach rs sg /\ m8 rs sg := by
 obtain ⟨p, hp, p1, p5⟩ : ∃ p : Nat, 1 + v % 5 = (p : Int) /\ 1 <= p /\ p <= 5 := ⟨(1 + v % 5).toNat, by omega, by omega, by omega⟩
 obtain ⟨q, hq, q1, q5⟩ : ∃ q : Nat, 1 + v / 5 % 5 = (q : Int) /\ 1 <= q /\ q <= 5 := ⟨(1 + v / 5 % 5).toNat, by omega, by omega, by omega⟩
 obtain ⟨aim, ha⟩ : ∃ aim : Nat, v / 25 % (p : Int) = (aim : Int) := by
  have := Int.emod_nonneg (v / 25) (show (p : Int) ≠ 0 by omega)
  exact ⟨(v / 25 % (p : Int)).toNat, by omega⟩
 have M := aF9 (p := p) (q := q) (sg := sg) (aim := aim) p1 p5 q1 q5 s1 s3
 refine ⟨kH p q sg aim, ?_, M, aJF M (aJH p1 p5 q1 q5)⟩
 obtain ⟨ρ1, a1, u, w, rfl⟩ := fQ (fs := stN 6) (fb := cA) (d := fun i : Nat => .int (i : Int)) (xs := List.range p) (ρ := cρ v p q sg aim [] none none)
  (fun i ρ => ∃ u w, ρ = cρ v p q sg aim ((List.range i).map fun i => bU (mB p sg aim i)) u w) ⟨none, none, rfl⟩ fun i x ρ hx zz0 => by
  obtain ⟨u, w, e⟩ := zz0
  have hi : i < p := by
   rcases Nat.lt_or_ge i (List.range p).length with h | h
   · simpa using h
   · rw [List.getElem?_eq_none h] at hx; cases hx
  rw [List.getElem?_range hi] at hx
  cases hx
  obtain ⟨w', h⟩ := aNN (v := v) (p := p) (q := q) (sg := sg) (aim := aim) (i := i) (xs := (List.range i).map fun i => bU (mB p sg aim i)) (w := w) p1 s3 (by simp; omega)
  refine ⟨_, _, by rw [e]; rfl, .inl h, some (.d (.int (i : Int))), w', ?_⟩
  rw [List.range_succ, List.map_append]; rfl
 obtain ⟨ρ2, a2, u2, w2, rfl⟩ := fQ (fs := stN 6) (fb := cC) (d := fun i : Nat => .int (i : Int)) (xs := List.range q) (ρ := cρ v p q sg aim ((List.range p).map (fun i => bU (mB p sg aim i)) ++ [bU (rowM p sg)]) u w)
  (fun i ρ => ∃ u w, ρ = cρ v p q sg aim (((List.range p).map (fun i => bU (mB p sg aim i)) ++ [bU (rowM p sg)]) ++ (List.range i).map fun j => bU (p6 p q sg j)) u w) ⟨u, w, by simp⟩ fun i x ρ hx zz0 => by
  obtain ⟨u, w, e⟩ := zz0
  have hi : i < q := by
   rcases Nat.lt_or_ge i (List.range q).length with h | h
   · simpa using h
   · rw [List.getElem?_eq_none h] at hx; cases hx
  rw [List.getElem?_range hi] at hx
  cases hx
  obtain ⟨w', h⟩ := aNO (v := v) (p := p) (q := q) (sg := sg) (aim := aim) (j := i) (xs := ((List.range p).map (fun i => bU (mB p sg aim i)) ++ [bU (rowM p sg)]) ++ (List.range i).map fun j => bU (p6 p q sg j)) (w := w) q1 s1 s3 (by simp; omega)
  refine ⟨_, _, by rw [e]; rfl, .inl h, some (.d (.int (i : Int))), w', ?_⟩
  rw [List.range_succ, List.map_append, List.append_assoc, List.append_assoc, List.append_assoc]; rfl
 rw [List.length_range] at a1 a2
 have hrp := eH (n := p) (by omega)
 have hrq := eH (n := q) (by omega)
 have hrs := eH (n := sg) (by omega)
 have hm := dM (fs := stN 0) (fe := cV (aB (eV 1) (aB (e1 dNeg (eC (.int 1))) aL))) (ρ0 := [none, some (.d (.int (p : Int)))]) (d := fun k : Nat => .int (k : Int)) (g := fun _ : Nat => cG ((p : Int), -1)) (xs := List.range sg) fun k hk => ⟨_, rfl, by simp [cG]⟩
 have k5 : ∀ y : Int, dMod (.int y) (.int 5) = .ok (.int (y % 5)) := fun y => cK (by decide)
 have d5 : ∀ y : Int, dDiv (.int y) (.int 5) = .ok (.int (y / 5)) := fun y => gJ (by decide) (by decide)
 have d25 : ∀ y : Int, dDiv (.int y) (.int 25) = .ok (.int (y / 25)) := fun y => gJ (by decide) (by decide)
 have ka : dMod (.int (v / 25)) (.int (p : Int)) = .ok (.int (aim : Int)) := by rw [cK (by omega), ha]
 have hlp : p < 16777216 := by omega
 unfold eW iG
 change fnF 8 (aH _ (aH _ (aH _ (aH _ (aH (gA _ (stN 6) cA) (aH _ (aH (gA _ (stN 6) cC) _))))))) _ = _
 simp only [cρ] at a1 a2
 rw [aEP] at a2
 simp [k5, d5, d25, hp, hq, ka, hrp, hrq, hrs, a1, fJ, hm, hlp]
 rw [a2]
 simp
 unfold cM kH
 rw [List.map_append, List.map_cons, List.map_map, List.map_map, aEP]
 rfl
end Mc
namespace Mc
open PySem L2 PyProof.Rows Fl
theorem aA6 {sg : Nat} {c : Nat} {t : List Nat} (hc : bV sg c = false) : ∀ {z : List Nat} {i : Nat}, (∀ c ∈ z, bV sg c = true) -> iI sg i (z ++ c :: t) = some (i + z.length)
 | [], i, _ => by
  show iI sg i (c :: t) = _
  rw [k8, hc, if_neg (by decide)]; rfl
 | d :: z, i, h => by
  show iI sg i (d :: (z ++ c :: t)) = _
  rw [k8, if_pos (h d (by simp)), aA6 hc fun x hx => h x (by simp [hx])]
  simp; omega
theorem aNQ {rs : List Rw} {sg : Nat} {fs : List PyData} {gs : List (List Nat)} (M : Mach rs sg) (R : Rchd (kM rs sg) fs gs) {z : Str} {i : Nat} (hz : z.cps.toList.length <= 16777216) (h : iI sg 0 z.cps.toList = some i) : dZ [.d (fS rs fs gs), .d (.str z), .d (.int i)] = .ok (.d (.bool true)) := by
 have e := aF7 M R hz h
 have h1 : gQ "int" (.int (i : Int)) = .ok (.bool true) := rfl
 unfold dZ iH
 simp [aI4, e, aL7, aI5, h1, cZ]
theorem walk_is {rs : List Rw} {sg : Nat} {z : List Nat} (M : Mach rs sg) (S : a8 sg z) {n : Nat} {s : Int × Int} {o : Str} (h : Ex (eB rs z) n s o) : g6 rs z s -> o = "by" \/ o = "out" := by
 induction h with
 | @out s o h =>
  intro V
  have hr := List.mem_of_getElem? (c9 V.2.2.1 V.2.2.2)
  unfold eB at h
  cases e : (bP rs z s).1 with
  | n q => rw [e] at h; cases h
  | w x =>
   rw [e] at h
   cases h
   unfold bP at e
   split at e
   ·have := (M.row _ hr).1.1
    simp only at e
    rw [e] at this; exact this
   ·split at e
    ·have := (M.row _ hr).1.2.1
     simp only at e
     rw [e] at this; exact this
    ·cases e
 | @go s s' o n h t ih =>
  intro V
  refine ih (n4 M S V ?_)
  unfold eB at h
  unfold eQ
  cases e : (bP rs z s).1 with
  | w x => rw [e] at h; cases h
  | n q => rw [e] at h; cases h; rfl
theorem aEQ {rs : List Rw} {sg : Nat} {z : List Nat} (M : Mach rs sg) (S : a8 sg z) : jX rs z = "by" \/ jX rs z = "out" \/ jX rs z = "ever" := by
 unfold jX
 cases e : bQ (eB rs z) (0, 0) with
 | none => exact .inr (.inr rfl)
 | some o =>
  obtain ⟨n, h⟩ := fE e
  rcases walk_is M S h (beg0 M z).valid with q | q
  · exact .inl q
  · exact .inr (.inl q)
noncomputable def lpB : Sg -> R Fw := (aH (bO 10 (aZ 2 gY (aB (vV 4) (aB (vV 9) aL))))
 (aH (bO 11 (aZ 2 fZ (aB (vV 6) (aB (vV 9) aL))))
 (sIf (bOr (e1 asB (e2 dNe (eA (aZ 2 fK (aB (vV 6) (aB (vV 9) aL)))) (rV 10))) (bOr (mZ (e1 asB (e1 (gQ "int") (rV 11)))) (e1 asB (e2 dNe (e2 dIx (e2 dIx (rV 6) (eC (.int 1))) (rV 11)) (rV 10))))) (bS (vD (eC (.bool false)))) sNx)))
theorem aNR {rs : List Rw} {sg : Nat} {fs : List PyData} {gs : List (List Nat)} (M : Mach rs sg) (R : Rchd (kM rs sg) fs gs) {z : Str} (S : a8 sg z.cps.toList) {a b c d f g h u v : Option A} : ∃ u' v', lpB [a, b, c, d, some (.d (cM rs)), f, some (.d (fS rs fs gs)), g, h, some (.d (.str z)), u, v] = .ok (.nx [a, b, c, d, some (.d (cM rs)), f, some (.d (fS rs fs gs)), g, h, some (.d (.str z)), u', v']) := by
 obtain ⟨r, e, hr⟩ := aG1 M R S
 have i1 : dIx (fS rs fs gs) (.int 1) = .ok (.tuple (fs.map (jZ rs))) := rfl
 have w := zC (gs := gs) M S hr
 have f1 := aLW M S
 have f2 := aNK M R S
 have h1 : gQ "int" (.int (r : Int)) = .ok (.bool true) := rfl
 have ne := aNH (aEQ M S)
 exact ⟨some (.d (.str (jX rs z.cps.toList))), some (.d (.int (r : Int))), by simp [lpB, f1, e, f2, i1, w, h1, ne]⟩
def sgT (sg : Nat) : Str := Txt.slice "abc" none (some (sg : Int))
theorem aA7 {sg : Nat} (s1 : 1 <= sg) (s3 : sg <= 3) : (sgT sg).cps.toList = [97, 98, 99].take sg := aAA s1 s3
theorem sL {sg c : Nat} (s1 : 1 <= sg) (s3 : sg <= 3) (h : c ∈ (sgT sg).cps.toList) : bV sg c = true := by
 rw [aA7 s1 s3] at h
 obtain ⟨i, hi⟩ := List.getElem?_of_mem h
 exact (o5 s1 s3).mpr ⟨i, hi⟩
theorem aA8 {sg : Nat} (s1 : 1 <= sg) (s3 : sg <= 3) : (sgT sg).cps.toList.length <= 3 := by rw [aA7 s1 s3, List.length_take]; simp; omega
noncomputable def prB : Sg -> R Fw := (dC 7 (e2 m3 (rV 7) (eL (dJ [none, some 8] (e1 cJ (eSl dSl (eC (.str "abc")) oNo (oSo (rV 2)))) (stN 0) eS (e2 bE (rV 1) (rV 0))))))
theorem aA9 {xs ys : List PyData} (h : xs.length + ys.length <= 16777216) : m3 (.list xs) (.list ys) = .ok (xs ++ ys) := if_pos (by rw [dF]; exact h)
theorem aNS {sg : Nat} (s1 : 1 <= sg) (s3 : sg <= 3) {zs : List Str} (hl : zs.length <= 1000000) (hS : ∀ z ∈ zs, a8 sg z.cps.toList) {c : Nat} (hc : bV sg c = true) {a0 a1 a3 a4 a5 a6 a9 a10 a11 : Option A} : ∃ zs' : List Str, prB [a0, a1, some (.d (.int (sg : Int))), a3, a4, a5, a6, some (.l (zs.map .str)), some (.d (.str ⟨#[c]⟩)), a9, a10, a11] = .ok (.nx [a0, a1, some (.d (.int (sg : Int))), a3, a4, a5, a6, some (.l (zs'.map .str)), some (.d (.str ⟨#[c]⟩)), a9, a10, a11]) /\ zs'.length <= zs.length + 3 /\ ∀ z ∈ zs', a8 sg z.cps.toList := by
 have hsl : dSl (.str "abc") none (some (sg : Int)) = .ok (.str (sgT sg)) := aCA (by decide)
 have hl3 := aA8 s1 s3
 have hi : cJ (.str (sgT sg)) = .ok ((sgT sg).cps.toList.map fun u : Nat => PyData.str ⟨#[u]⟩) := r9 (by omega)
 have hcp := dM (fs := stN 0) (fe := e2 bE (rV 1) (rV 0)) (ρ0 := [none, some (.d (.str ⟨#[c]⟩))]) (d := fun u : Nat => PyData.str ⟨#[u]⟩) (g := fun u : Nat => PyData.str (⟨#[c]⟩ ++ ⟨#[u]⟩)) (xs := (sgT sg).cps.toList) fun u hu => ⟨_, rfl, by
  have : bE (.str ⟨#[c]⟩) (.str ⟨#[u]⟩) = .ok (.str (⟨#[c]⟩ ++ ⟨#[u]⟩)) := tX (by show 1 + 1 <= 16777216; decide)
  simp [this]⟩
 refine ⟨zs ++ (sgT sg).cps.toList.map fun u : Nat => (⟨#[c]⟩ ++ ⟨#[u]⟩ : Str), ?_, by rw [List.length_append, List.length_map]; omega, fun z hz => ?_⟩
 ·have hn := aA9 (xs := zs.map .str) (ys := (sgT sg).cps.toList.map fun u : Nat => PyData.str (⟨#[c]⟩ ++ ⟨#[u]⟩)) (by simp only [List.length_map]; omega)
  rw [List.map_append, List.map_map]
  simp only [prB, l5, lD, jV, aNB, yR, mP, aD9, jU, aEA, aEB, R.bind_ok, List.getElem?_cons_zero, List.getElem?_cons_succ, hsl, hi, fJ, List.map_cons, List.map_nil, Option.bind_none, Option.bind_some, Option.join_some, hcp, hn, List.set_cons_zero, List.set_cons_succ]
  rfl
 ·rcases List.mem_append.mp hz with h | h
  ·exact hS z h
  ·obtain ⟨u, hu, rfl⟩ := List.mem_map.mp h
   have e : ((⟨#[c]⟩ ++ ⟨#[u]⟩ : Str)).cps.toList = [c, u] := rfl
   rw [e]
   refine ⟨by simp, fun x hx => ?_⟩
   rcases List.mem_cons.mp hx with rfl | hx
   · exact hc
   · rw [List.mem_singleton.mp hx]; exact sL s1 s3 hu
end Mc
namespace Mc
open PySem L2 PyProof.Rows Fl
noncomputable def lwT : Sg -> R Fw := (aH (bO 5 (aZ 4 eU (aB (vV 0) (aB (vD (e2 bE (eC (.int 3)) (rV 3))) (aB (vD (e2 (d2 u9) (eC (.int 0)) (e2 (d2 vA) (eC (.int 50)) (e2 dSub (e2 dSub (e1 dLen (rV 0)) (eC (.int 3))) (rV 3))))) (aB (vV 2) aL))))))
 (aH (bO 6 (aZ 1 jH (aB (vV 4) aL)))
 (aH (dC 7 (e2 m3 (eL (dJ [none, some 5] (dD (e2 bE (e1 dLen (rV 5)) (eC (.int 1)))) (stN 0) eS (eSl dSl (rV 1) oNo (oSo (rV 0))))) (eL (e1 dLS (eSl dSl (eC (.str "abc")) oNo (oSo (rV 2)))))))
 (aH (gA (e1 cJ (eSl dSl (eC (.str "abc")) oNo (oSo (rV 2)))) (stN 8) prB)
 (aH (sFz 7 (gA (e1 cJ (eV 7)) (stN 9) lpB))
 (bS (aZ 3 dZ (aB (vV 6) (aB (vD (e2 bE (e2 bE (rV 5) (e2 dIx (eC (.str "abcd")) (rV 2))) (eC (.str "d")))) (aB (vD (e1 dLen (rV 5))) aL))))))))))
theorem aJI {sg : Nat} (s3 : sg <= 3) : dIx (.str "abcd") (.int (sg : Int)) = .ok (.str ⟨#[97 + sg]⟩) := by
 obtain rfl | rfl | rfl | rfl : sg = 0 \/ sg = 1 \/ sg = 2 \/ sg = 3 := by omega
 all_goals rfl
theorem vN {ns : List Int} (hns : ns.length <= 63) {k : Int} {sg n : Nat} {rs : List Rw} (s1 : 1 <= sg) (s3 : sg <= 3) (M : Mach rs sg) (B : m8 rs sg) :
  lwT [some (.d (d3 ns)), some (.d (.int k)), some (.d (.int (sg : Int))), some (.d (.int (n : Int))), some (.d (cM rs)), none, none, none, none, none, none, none] = .ok (.rt (.d (.bool true))) := by
 obtain ⟨m, hm, m50⟩ : ∃ m : Nat, max 0 (min 50 ((ns.length : Int) - 3 - n)) = (m : Int) /\ m <= 50 := ⟨(max 0 (min 50 ((ns.length : Int) - 3 - n))).toNat, by omega, by omega⟩
 obtain ⟨z, e4, S, lz⟩ := aI1 (ns := ns) (at' := 3 + (n : Int)) (m := m) (sg := sg) (by omega) (by omega) s1 s3
 obtain ⟨fs, gs, ew, R⟩ := aNJ M B
 have ls := iO ns
 have q1 : Fl.d2 vA (.int 50) (.int ((ns.length : Int) - 3 - n)) = .ok (.int (min 50 ((ns.length : Int) - 3 - n))) := by
  have : vA 50 ((ns.length : Int) - 3 - n) = min 50 ((ns.length : Int) - 3 - n) := by
   unfold vA
   split <;> omega
  rw [<- this]; rfl
 have q2 : Fl.d2 u9 (.int 0) (.int (min 50 ((ns.length : Int) - 3 - n))) = .ok (.int (m : Int)) := by
  have : u9 0 (min 50 ((ns.length : Int) - 3 - n)) = (m : Int) := by
   rw [<- hm]
   unfold u9
   split <;> omega
  rw [<- this]; rfl
 have hz : z.length <= 16777216 := by rw [lM]; omega
 have zl := aEC (z := z) hz
 rw [lM, lz] at zl
 have hrg := eH (n := m + 1) (by omega)
 rw [show ((m + 1 : Nat) : Int) = (m : Int) + 1 by omega] at hrg
 have hsl : dSl (.str "abc") none (some (sg : Int)) = .ok (.str (sgT sg)) := aCA (by decide)
 have hl3 := aA8 s1 s3
 have hi : cJ (.str (sgT sg)) = .ok ((sgT sg).cps.toList.map fun u : Nat => PyData.str ⟨#[u]⟩) := r9 (by omega)
 have hls : dLS (.str (sgT sg)) = .ok ((sgT sg).cps.toList.map fun u : Nat => PyData.str ⟨#[u]⟩) := if_pos (by omega)
 have hcp := dM (fs := stN 0) (fe := eSl dSl (rV 1) oNo (oSo (rV 0))) (ρ0 := [none, some (.d (.str z))]) (d := fun i : Nat => PyData.int (i : Int)) (g := fun i : Nat => PyData.str ⟨(z.cps.toList.take i).toArray⟩) (xs := List.range (m + 1)) fun i hi => ⟨_, rfl, by
  have hi := List.mem_range.mp hi
  have d1 := aCA (lo := none) (hi := some (i : Int)) hz
  rw [aB9 (by omega)] at d1
  simp [d1]⟩
 let zs0 : List Str := (List.range (m + 1)).map (fun i => (⟨(z.cps.toList.take i).toArray⟩ : Str)) ++ (sgT sg).cps.toList.map fun u : Nat => (⟨#[u]⟩ : Str)
 have hz0 : zs0.map PyData.str = (List.range (m + 1)).map (fun i => PyData.str ⟨(z.cps.toList.take i).toArray⟩) ++ (sgT sg).cps.toList.map fun u : Nat => PyData.str ⟨#[u]⟩ := by
  show List.map _ (_ ++ _) = _
  rw [List.map_append, List.map_map, List.map_map]; rfl
 have hl0 : zs0.length <= 54 := by
  show (_ ++ _ : List Str).length <= 54
  rw [List.length_append, List.length_map, List.length_map, List.length_range]; omega
 have hS0 : ∀ y ∈ zs0, a8 sg y.cps.toList := fun y hy => by
  rcases List.mem_append.mp hy with h | h
  ·obtain ⟨i, _, rfl⟩ := List.mem_map.mp h
   simpa using S.take i
  ·obtain ⟨u, hu, rfl⟩ := List.mem_map.mp h
   refine ⟨by show 1 <= 1000; decide, fun c hc => ?_⟩
   have hc' : c ∈ [u] := hc
   rw [List.mem_singleton.mp hc']; exact sL s1 s3 hu
 have hn0 := aA9 (xs := (List.range (m + 1)).map (fun i => PyData.str ⟨(z.cps.toList.take i).toArray⟩)) (ys := (sgT sg).cps.toList.map fun u : Nat => PyData.str ⟨#[u]⟩) (by simp only [List.length_map, List.length_range]; omega)
 rw [<- hz0] at hn0
 obtain ⟨ρ1, f1, g1⟩ := fQ (fs := stN 8) (fb := prB) (d := fun u : Nat => PyData.str ⟨#[u]⟩) (xs := (sgT sg).cps.toList) (ρ := [some (.d (d3 ns)), some (.d (.int k)), some (.d (.int (sg : Int))), some (.d (.int (n : Int))), some (.d (cM rs)), some (.d (.str z)), some (.d (fS rs fs gs)), some (.l (zs0.map .str)), none, none, none, none])
  (fun i ρ => ∃ (zs : List Str) (u : Option A), ρ = [some (.d (d3 ns)), some (.d (.int k)), some (.d (.int (sg : Int))), some (.d (.int (n : Int))), some (.d (cM rs)), some (.d (.str z)), some (.d (fS rs fs gs)), some (.l (zs.map .str)), u, none, none, none] /\ zs.length <= 54 + 3 * i /\ ∀ y ∈ zs, a8 sg y.cps.toList) ⟨zs0, none, rfl, by omega, hS0⟩ fun i c ρ hc zz0 => by
  obtain ⟨zs, u, e, hl, hS⟩ := zz0
  have hci : i < (sgT sg).cps.toList.length := by
   rcases Nat.lt_or_ge i (sgT sg).cps.toList.length with h | h
   · exact h
   · rw [List.getElem?_eq_none h] at hc; cases hc
  obtain ⟨zs', h1, h2, h3⟩ := aNS s1 s3 (zs := zs) (by omega) hS (sL s1 s3 (List.mem_of_getElem? hc)) (a0 := some (.d (d3 ns))) (a1 := some (.d (.int k))) (a3 := some (.d (.int (n : Int)))) (a4 := some (.d (cM rs))) (a5 := some (.d (.str z))) (a6 := some (.d (fS rs fs gs))) (a9 := none) (a10 := none) (a11 := none)
  exact ⟨_, _, by rw [e]; rfl, .inl h1, zs', some (.d (.str ⟨#[c]⟩)), rfl, by omega, h3⟩
 obtain ⟨zs, u, rfl, hl, hS⟩ := g1
 obtain ⟨ρ2, f2, g2⟩ := fQ (fs := stN 9) (fb := lpB) (d := PyData.str) (xs := zs) (ρ := [some (.d (d3 ns)), some (.d (.int k)), some (.d (.int (sg : Int))), some (.d (.int (n : Int))), some (.d (cM rs)), some (.d (.str z)), some (.d (fS rs fs gs)), some (.d (.list (zs.map .str))), u, none, none, none])
  (fun i ρ => ∃ a b c : Option A, ρ = [some (.d (d3 ns)), some (.d (.int k)), some (.d (.int (sg : Int))), some (.d (.int (n : Int))), some (.d (cM rs)), some (.d (.str z)), some (.d (fS rs fs gs)), some (.d (.list (zs.map .str))), u, a, b, c]) ⟨none, none, none, rfl⟩ fun i y ρ hy zz0 => by
  obtain ⟨a, b, c, e⟩ := zz0
  obtain ⟨u', v', h⟩ := aNR M R (hS y (List.mem_of_getElem? hy)) (a := some (.d (d3 ns))) (b := some (.d (.int k))) (c := some (.d (.int (sg : Int)))) (d := some (.d (.int (n : Int)))) (f := some (.d (.str z))) (g := some (.d (.list (zs.map .str)))) (h := u) (u := b) (v := c)
  exact ⟨_, _, by rw [e]; rfl, .inl h, some (.d (.str y)), u', v', rfl⟩
 obtain ⟨a, b, c, rfl⟩ := g2
 have hiz := kD (xs := zs.map PyData.str) (by rw [List.length_map]; omega)
 have ab := aJI s3
 have c1 : bE (.str z) (.str ⟨#[97 + sg]⟩) = .ok (.str (z ++ ⟨#[97 + sg]⟩)) := tX (by rw [lM]; show _ + 1 <= 16777216; omega)
 have hzz : (z ++ (⟨#[97 + sg]⟩ : Str)).cps.toList = z.cps.toList ++ [97 + sg] := by show (z.cps ++ #[97 + sg]).toList = _; simp
 have c2 : bE (.str (z ++ ⟨#[97 + sg]⟩)) (.str "d") = .ok (.str (z ++ ⟨#[97 + sg]⟩ ++ "d")) := tX (by rw [lM, hzz, List.length_append]; show _ + 1 <= 16777216; rw [lz, List.length_singleton]; omega)
 have hz3 : (z ++ (⟨#[97 + sg]⟩ : Str) ++ ("d" : Str)).cps.toList = z.cps.toList ++ (97 + sg) :: [100] := by
  show ((z.cps ++ #[97 + sg]) ++ #[100]).toList = _
  simp
 have rf := aNQ M R (z := z ++ ⟨#[97 + sg]⟩ ++ "d") (i := m) (by rw [hz3, List.length_append, lz]; show m + 2 <= 16777216; omega) (by
  rw [hz3, aA6 (show bV sg (97 + sg) = false by unfold bV; exact decide_eq_false (by omega)) S.2, lz]; simp)
 generalize hy3 : (z ++ (⟨#[97 + sg]⟩ : Str) ++ ("d" : Str)) = y3 at c2 rf
 generalize hy2 : (z ++ (⟨#[97 + sg]⟩ : Str)) = y2 at c1 c2
 simp [lwT, ls, q1, q2, e4, ew, zl, hrg, fJ, hcp, hsl, hls, hn0, hi, f1, hiz, f2, ab, c1, c2, rf]
theorem aGA : ∀ ns : List Int, ns.length <= 63 -> aCG [.d (.list (ns.map .int))] = .ok (.d (.bool true)) := by
 intro ns hns
 rw [show PyData.list (ns.map .int) = d3 ns from rfl]
 obtain ⟨v0, hv0⟩ := nR ns 0
 obtain ⟨v1, hv1⟩ := nR ns 1
 obtain ⟨v2, hv2⟩ := nR ns 2
 obtain ⟨sg, hs, s1, s3⟩ : ∃ sg : Nat, 1 + v1 % 3 = (sg : Int) /\ 1 <= sg /\ sg <= 3 := ⟨(1 + v1 % 3).toNat, by omega, by omega, by omega⟩
 obtain ⟨rs, e3, M, hl⟩ := aEG (ns := ns) (at' := 3) (n := 2) (sg := sg) (by decide) (by decide) (by decide) s1 s3
 have k3 : ∀ y : Int, dMod (.int y) (.int 3) = .ok (.int (y % 3)) := fun y => cK (by decide)
 have k9 : ∀ y : Int, dMod (.int y) (.int 9) = .ok (.int (y % 9)) := fun y => cK (by decide)
 have kb : ∀ y : Int, dMod (.int y) (.int 2147483647) = .ok (.int (y % 2147483647)) := fun y => cK (by decide)
 have hk : v0 % 3 = 0 \/ v0 % 3 = 1 \/ v0 % 3 = 2 := by omega
 have e3' : dY [.d (d3 ns), .d (.int 3), .d (.int 2), .d (.int (sg : Int))] = .ok (.d (cM rs)) := e3
 unfold aCG aCF
 change fnF 12 (aH _ (aH _ (aH _ (aH _ (aH _ (aH _ lwT)))))) _ = _
 rcases hk with hk | hk | hk
 ·have := vN hns (k := 0) (n := 2) s1 s3 M (aJE M hl)
  simp only [Int.cast_ofNat_Int] at this
  simp [hv0, hv1, k3, hk, hs, e3', cZ, this]
 ·obtain ⟨n, hn, n1, n9⟩ : ∃ n : Nat, 1 + v2 % 9 = (n : Int) /\ 1 <= n /\ n <= 9 := ⟨(1 + v2 % 9).toNat, by omega, by omega, by omega⟩
  obtain ⟨rs', e', M', _, B⟩ := aNL (ns := ns) (at' := 3) (n := n) (sg := sg) (by decide) n1 (by omega) s1 s3
  have := vN hns (k := 1) (n := n) s1 s3 M' B
  simp [hv0, hv1, hv2, k3, k9, hk, hs, hn, e3', e', cZ, this]
 ·obtain ⟨rs', e', M', B⟩ := aNP (v := v2 % 2147483647) (sg := sg) (by omega) s1 s3
  have := vN hns (k := 2) (n := 2) s1 s3 M' B
  simp only [Int.cast_ofNat_Int] at this
  simp [hv0, hv1, hv2, k3, kb, hk, hs, e3', e', cZ, this]
end Mc
namespace Mc
open PySem L2 PyProof.Rows Fl
section
variable {P : Program} {w : World} {K : Frag} {mg : Str -> Option Value} {base : Heap} {TH : Hp}
theorem uH : FnScope ["self", "at"] ["self", "at"] (aO (j7 (top 2) 0)) := by constructor <;> first | rfl | decide +kernel
theorem uI {f W C : Addr} {fd : FuncData} (F : Fun K "__init__" "NoStrip.__init__" (j7 (top 2) 0) f fd) (c : SX.ExcC K W C) (n1 : PySem.W.findIn K (.ref C) "at" = some none) :
  FnOk P w K mg base CX0 1 f fd ["self", "at"] (spI C ["at"]) := by
 refine F.ok uH (fun vs H Q E h => ?_) (fun cdv A outer s H vs Q E hr h => ?_)
 ·obtain ⟨e, xs, rfl, hl, _⟩ := h
  rw [List.length_cons, hl]; rfl
 ·obtain ⟨e, xs, rfl, hl, he, q⟩ := h
  obtain ⟨x, rfl⟩ : ∃ x, xs = [x] := Mc.bn1 (P := fun xs => ∃ x, xs = [x]) (fun x => ⟨x, rfl⟩) xs hl
  refine ⟨_, L2.aS (aHL (pv 0) (pv 1) rfl), ?_⟩
  refine ⟨_, rfl, _, rfl, e, W, C, rfl, c, n1, .inl ⟨he, fun d hd hne => ?_⟩⟩
  exact q d hd hne
def j0 (K : Frag) (mg : Str -> Option Value) : Prop := ∃ W C, SX.ExcC K W C /\ mg "NoStrip" = some (.ref C) /\ PySem.W.findIn K (.ref C) "at" = some none /\
      ∃ fI fdI, Fun K "__init__" "NoStrip.__init__" (j7 (top 2) 0) fI fdI /\ gN K fdI ["self", "at"] [] /\ PySem.W.findIn K (.ref C) "__init__" = some (some (.ref fI)) /\ PySem.W.typeIn K (.ref fI) = some (.type "function")
theorem vO (h : j0 K mg) : ∃ W C, ErrAt P w K mg base "NoStrip" ["at"] W C := by
 obtain ⟨W, C, er, m, n1, fI, fdI, FI, bI, aI, tI⟩ := h
 have I := uI (P := P) (w := w) (mg := mg) (base := base) FI er n1
 exact ⟨W, C, er, m, fun f hf => by rw [List.mem_singleton.mp hf]; exact n1, fI, fdI, I, aI, tI, bI⟩
theorem aJJ (T : Txt w K mg) (Er_NoStrip : j0 K mg) (Erp_TooMany : ∃ W C, ErrP K mg "TooMany" W C) (D6 : DefAt K mg "signs_of" (top 6) ["machine"]) (D7 : DefAt K mg "cells_of" (top 7) ["machine", "number"]) (D8 : DefAt K mg "checked_by" (top 8) ["signs", "strip"]) (D10 : DefAt K mg "reached" (top 10) ["begin", "after", "done"]) (D13 : DefAt K mg "is_word" (top 13) ["part"]) (D14 : DefAt K mg "without_signs" (top 14) ["machine"]) (D15 : DefAt K mg "gone_on" (top 15) ["backs", "cells", "room"]) (D16 : DefAt K mg "longer" (top 16) ["begun", "cells"]) (D17 : DefAt K mg "word_behind" (top 17) ["machine", "begun"]) (D18 : DefAtT K mg base TH qsT "one_way" (top 18) ["machine"]) (D19 : DefAt K mg "signs_by" (top 19) ["reader"]) (D20 : DefAt K mg "room_from" (top 20) ["reader", "room", "strip"]) (D21 : DefAt K mg "room_by" (top 21) ["reader", "strip"]) (D22 : DefAt K mg "word_by" (top 22) ["reader", "strip"]) (D24 : DefAt K mg "_law_cell" (top 24) ["_law_script", "_law_k"]) (D25 : DefAt K mg "_law_end" (top 25) ["_law_number", "_law_rooms"]) (D26 : DefAt K mg "_law_digit_row" (top 26) ["_law_number", "_law_rooms", "_law_signs"]) (D27 : DefAt K mg "_law_mixed_row" (top 27) ["_law_number", "_law_rooms", "_law_signs"]) (D28 : DefAt K mg "_law_machine" (top 28) ["_law_script", "_law_at", "_law_rooms", "_law_signs"]) (D29 : DefAt K mg "_law_strip" (top 29) ["_law_script", "_law_at", "_law_size", "_law_signs"]) (D30 : DefAt K mg "_law_step" (top 30) ["_law_machine_here", "_law_strip_here", "_law_stand"]) (D31 : DefAt K mg "_law_stands" (top 31) ["_law_machine_here", "_law_strip_here"]) (D32 : DefAt K mg "_law_says" (top 32) ["_law_machine_here", "_law_strip_here"]) (D33 : DefAt K mg "_law_onward" (top 33) ["_law_script", "_law_at", "_law_rooms", "_law_signs"]) (D34 : DefAt K mg "_law_counter" (top 34) ["_law_cell_here", "_law_signs"]) (D35 : DefAt K mg "_law_refused" (top 35) ["_law_oneway", "_law_strip_here", "_law_at"]) {fL : Addr} {fdL : FuncData} (FL : Fun K "law" "law" (top 36) fL fdL) : FnOk P w K mg base (CXe P w) 15 fL fdL ["_law_script"] (aB3 K TH) := by
 obtain ⟨W_NoStrip, C_NoStrip, er_NoStrip⟩ := vO (P := P) (w := w) (base := base) Er_NoStrip
 obtain ⟨Wp_TooMany, Cp_TooMany, erp_TooMany⟩ := Erp_TooMany
 have c_signs_of := @zW P w K mg base TH T D6 
 have c_cells_of := @zX P w K mg base TH T D7 
 have c_checked_by := wK (P := P) (w := w) (base := base) (TH := TH) T D8 er_NoStrip
 have c_reached := @aCH P w K mg base TH T D10 
 have c_is_word := @aCI P w K mg base TH T D13 
 have c_without_signs := @sI P w K mg base TH T D14 
 have c_gone_on := @aCJ P w K mg base TH T D15 c_is_word
 have c_longer := @aEN P w K mg base TH T D16 c_gone_on
 have c_word_behind := @vK P w K mg base TH T D17 c_is_word
 have c_one_way := aCK (P := P) (w := w) (base := base) (TH := TH) T D18 c_signs_of c_cells_of c_longer c_reached c_without_signs c_word_behind erp_TooMany
 have c_signs_by := @zY P w K mg base TH T D19 
 have c_room_from := @zG P w K mg base TH T D20 
 have c_room_by := @aCL P w K mg base TH T D21 c_room_from c_checked_by c_signs_by
 have c_word_by := @aCM P w K mg base TH T D22 c_room_by
 have c__law_cell := @zH P w K mg base TH T D24 
 have c__law_end := @zZ P w K mg base TH T D25 
 have c__law_digit_row := @rB P w K mg base TH T D26 
 have c__law_mixed_row := @rC P w K mg base TH T D27 c__law_end
 have c__law_machine := @uE P w K mg base TH T D28 c__law_digit_row c__law_mixed_row c__law_cell
 have c__law_strip := @wL P w K mg base TH T D29 c__law_cell
 have c__law_step := @zI P w K mg base TH T D30 
 have c__law_stands := @vL P w K mg base TH T D31 c__law_step
 have c__law_says := @zJ P w K mg base TH T D32 c__law_stands c__law_step
 have c__law_onward := @vM P w K mg base TH T D33 c__law_machine
 have c__law_counter := @uF P w K mg base TH T D34 
 have c__law_refused := uG (P := P) (w := w) (base := base) (TH := TH) T D35 c_word_by er_NoStrip
 exact aK3 (aME (P := P) (w := w) (base := base) (TH := TH) T FL c__law_cell c__law_machine c__law_onward c__law_counter c__law_strip c_one_way c__law_says c_room_by c_word_by c__law_refused) aGA
end
section
variable {w : World} {K : Frag} {h : Heap} {mg : Str -> Option Value}
theorem aMJ (X : K.In h) (G : h.Ns mainGlobals mg) {t_MOST_BEGINNINGS : Nat} {t_SIGNS : Nat} (z_enumerate : PySem.W.nsIn K mainGlobals "enumerate" = some none) (z_int : PySem.W.nsIn K mainGlobals "int" = some none) (z_isinstance : PySem.W.nsIn K mainGlobals "isinstance" = some none) (z_len : PySem.W.nsIn K mainGlobals "len" = some none) (z_list : PySem.W.nsIn K mainGlobals "list" = some none) (z_max : PySem.W.nsIn K mainGlobals "max" = some none) (z_min : PySem.W.nsIn K mainGlobals "min" = some none) (z_range : PySem.W.nsIn K mainGlobals "range" = some none) (z_str : PySem.W.nsIn K mainGlobals "str" = some none) (z_tuple : PySem.W.nsIn K mainGlobals "tuple" = some none) (s_MOST_BEGINNINGS : PySem.W.nsIn K mainGlobals "MOST_BEGINNINGS" = some (some (.int 200 t_MOST_BEGINNINGS))) (s_SIGNS : PySem.W.nsIn K mainGlobals "SIGNS" = some (some (.str "abc" t_SIGNS))) : Txt w K mg := ⟨PySem.W.mg_none_of X G z_enumerate, PySem.W.mg_none_of X G z_int, PySem.W.mg_none_of X G z_isinstance, PySem.W.mg_none_of X G z_len, PySem.W.mg_none_of X G z_list, PySem.W.mg_none_of X G z_max, PySem.W.mg_none_of X G z_min, PySem.W.mg_none_of X G z_range, PySem.W.mg_none_of X G z_str, PySem.W.mg_none_of X G z_tuple, ⟨t_MOST_BEGINNINGS, PySem.W.mg_of X G s_MOST_BEGINNINGS⟩, ⟨t_SIGNS, PySem.W.mg_of X G s_SIGNS⟩⟩
theorem wM (X : K.In h) (G : h.Ns mainGlobals mg) {W C fI NC : Addr} {bsC subC : List Value} {nmC qC : Str} {abC : Bool} {snC : List Str} {colC : Option Bool} {ddC : Option Addr} {c0 c1 c2 c3 c5 : Option Value}
  {oc : Value} {od an : Option Addr} {osl : Array (Option Value)} {kV doc pm cdv ct : Value}
  (m : PySem.W.nsIn K mainGlobals "NoStrip" = some (some (.ref C)))
  (e1 : K.lookup C = some (excClassObj nmC qC C NC bsC (.ref W :: SX.gG) true snC subC abC colC ddC c0 c1 c2 c3 c5 "ValueError.__new__"))
  (e2 : PySem.W.findIn K (.ref C) "__setattr__" = some (some (.builtin "object.__setattr__"))) (e3 : PySem.W.findIn K (.ref C) "__getattribute__" = some (some (.builtin "BaseException.__getattribute__"))) (e4 : PySem.W.findIn K (.ref C) "__getattr__" = some none) (e5 : PySem.W.findIn K (.ref C) "__class__" = some (some (.builtin "object.__class__")))
  (e6 : PySem.W.specialIn K (.builtin "object.__class__") "__get__" = some (some (.builtin "getset_descriptor.__get__"))) (e7 : PySem.W.takesIn K (.builtin "object.__class__") = some true) (e8 : PySem.W.keepIn K (.ref C) = true)
  (p1 : PySem.W.findIn K (.ref C) "at" = some none)
  (i1 : PySem.W.findIn K (.ref C) "__init__" = some (some (.ref fI))) (i2 : K.lookup fI = some ⟨oc, od, .func (PySem.W.fnOf "__init__" "NoStrip.__init__" (fU (j7 (top 2) 0)) (c8 (j7 (top 2) 0)) (aO (j7 (top 2) 0)) .none kV doc pm an cdv ct), osl⟩) (i3 : PySem.W.codeIn K cdv "NoStrip.__init__" = true) (i4 : PySem.W.keepIn K (.ref fI) = true) (i5 : PySem.W.typeIn K (.ref fI) = some (.type "function")) : j0 K mg := by
 have FI := w8 (st := j7 (top 2) 0) i2 i3 i4
 exact ⟨W, C, z9 e1 e2 e3 e4 e5 e6 e7 e8, PySem.W.mg_of X G m, p1, fI, _, FI, FI.binds (ps := ["self", "at"]) (fun _ _ _ _ _ _ => Mc.bn2 fun _ _ => rfl), i1, i5⟩
theorem aMK {x : Str} (X : K.In h) (G : h.Ns mainGlobals mg) {W C NC : Addr} {bsC subC : List Value} {nmC qC : Str} {abC : Bool} {snC : List Str} {colC : Option Bool} {ddC : Option Addr} {c0 c1 c2 c3 c5 : Option Value} {wc : Value} {wd : Option Addr} {cd : ClassData} {wsl : Array (Option Value)}
  (m : PySem.W.nsIn K mainGlobals x = some (some (.ref C)))
  (e1 : K.lookup C = some (excClassObj nmC qC C NC bsC (.ref W :: SX.gG) true snC subC abC colC ddC c0 c1 c2 c3 c5 "ValueError.__new__"))
  (e2 : PySem.W.findIn K (.ref C) "__setattr__" = some (some (.builtin "object.__setattr__"))) (e3 : PySem.W.findIn K (.ref C) "__getattribute__" = some (some (.builtin "BaseException.__getattribute__"))) (e4 : PySem.W.findIn K (.ref C) "__getattr__" = some none) (e5 : PySem.W.findIn K (.ref C) "__class__" = some (some (.builtin "object.__class__")))
  (e6 : PySem.W.specialIn K (.builtin "object.__class__") "__get__" = some (some (.builtin "getset_descriptor.__get__"))) (e7 : PySem.W.takesIn K (.builtin "object.__class__") = some true) (e8 : PySem.W.keepIn K (.ref C) = true)
  (n1 : PySem.W.nsOkIn K NC = true) (n2 : PySem.W.nsIn K NC "__init__" = some none) (w1 : K.lookup W = some ⟨wc, wd, .cls cd, wsl⟩) (w2 : PySem.W.nsOkIn K cd.ns = true) (w3 : PySem.W.nsIn K cd.ns "__init__" = some none) : ∃ W C, ErrP K mg x W C :=
 ⟨W, C, z9 e1 e2 e3 e4 e5 e6 e7 e8, PySem.W.mg_of X G m, ⟨_, _, NC, _, _, _, _, _, _, _, _, _, _, _, e1, n1, n2⟩, ⟨_, _, cd, _, w1, w2, w3⟩⟩
theorem rec_in {q : Program} {x : Str} (h : ((recsOf q).any fun d => d.name == x) = true) : ∃ d ∈ recsOf q, d.name = x := by
 obtain ⟨d, hd, e⟩ := List.any_eq_true.mp h
 exact ⟨d, hd, eq_of_beq e⟩
theorem aML {fa f : Addr} {oc : Value} {od an : Option Addr} {osl : Array (Option Value)} {kV doc pm cdv ct : Value} (X : K.In h) (G : h.Ns mainGlobals mg) (hmg : mg "law" = some (.ref fa)) (a : PySem.W.nsIn K mainGlobals "law" = some (some (.ref f))) (l : K.lookup f = some ⟨oc, od, .func (PySem.W.fnOf "law" "law" (fU (top 36)) (c8 (top 36)) (aO (top 36)) .none kV doc pm an cdv ct), osl⟩)
  (c : PySem.W.codeIn K cdv "law" = true) (k : PySem.W.keepIn K (.ref f) = true) : ∃ fd, Fun K "law" "law" (top 36) fa fd /\ ∀ (s : Shared) (u : Value), BindsTo s fd ⟨[u], []⟩ [("_law_script", u)] := by
 have e := hmg.symm.trans (PySem.W.mg_of X G a)
 cases e
 exact ⟨_, w8 (st := top 36) l c k, fun s u => .of_eq rfl⟩
end
end Mc
open PySem PySem.W PyProof.Rows
set_option maxRecDepth 100000 in
set_option maxHeartbeats 0 in
theorem PySem.Challenge.cw_striproam_k22_whole_one_way_says_what_wa_holds : PySem.Challenge.rw_striproam_k22_whole_one_way_says_what_wa.Holds := by
 w_on; o_law; k_head; (case hw => w_witness2)
 k_fill
 refine Fl.aH8 (l := PySem.Challenge.rw_striproam_k22_whole_one_way_says_what_wa) (k := 15) (x := "_law_script") (qs := Mc.qsT) (xs := ["one_way"]) ?hx ?hNT rfl rfl ⟨rfl, by decide, by decide⟩ (fun w h Y => PySem.W.km_in_of Y) ?F
 case hx =>
  intro x hx
  simp only [List.mem_cons, List.not_mem_nil, or_false] at hx
  rcases hx with rfl <;> exact Mc.rec_in (by decide +kernel)
 case hNT =>
  intro w
  kernel_rfl
 case F =>
  intro w mg fa h KX G hmg
  have D6 : L2.DefAt (L2.KOf KX) mg "signs_of" (Mc.top 6) ["machine"] := by dsimp only [L2.KOf]; refine' Mc.b9 KX G ?a ?l ?c ?k ?b; (case a => k_is); (case l => k_is); (case c => k_is); (case k => k_is); (case b => exact fun _ _ _ _ _ _ => Mc.bn1 fun _ => rfl)
  have D7 : L2.DefAt (L2.KOf KX) mg "cells_of" (Mc.top 7) ["machine", "number"] := by dsimp only [L2.KOf]; refine' Mc.b9 KX G ?a ?l ?c ?k ?b; (case a => k_is); (case l => k_is); (case c => k_is); (case k => k_is); (case b => exact fun _ _ _ _ _ _ => Mc.bn2 fun _ _ => rfl)
  have D8 : L2.DefAt (L2.KOf KX) mg "checked_by" (Mc.top 8) ["signs", "strip"] := by dsimp only [L2.KOf]; refine' Mc.b9 KX G ?a ?l ?c ?k ?b; (case a => k_is); (case l => k_is); (case c => k_is); (case k => k_is); (case b => exact fun _ _ _ _ _ _ => Mc.bn2 fun _ _ => rfl)
  have D10 : L2.DefAt (L2.KOf KX) mg "reached" (Mc.top 10) ["begin", "after", "done"] := by dsimp only [L2.KOf]; refine' Mc.b9 KX G ?a ?l ?c ?k ?b; (case a => k_is); (case l => k_is); (case c => k_is); (case k => k_is); (case b => exact fun _ _ _ _ _ _ => Mc.bn3 fun _ _ _ => rfl)
  have D13 : L2.DefAt (L2.KOf KX) mg "is_word" (Mc.top 13) ["part"] := by dsimp only [L2.KOf]; refine' Mc.b9 KX G ?a ?l ?c ?k ?b; (case a => k_is); (case l => k_is); (case c => k_is); (case k => k_is); (case b => exact fun _ _ _ _ _ _ => Mc.bn1 fun _ => rfl)
  have D14 : L2.DefAt (L2.KOf KX) mg "without_signs" (Mc.top 14) ["machine"] := by dsimp only [L2.KOf]; refine' Mc.b9 KX G ?a ?l ?c ?k ?b; (case a => k_is); (case l => k_is); (case c => k_is); (case k => k_is); (case b => exact fun _ _ _ _ _ _ => Mc.bn1 fun _ => rfl)
  have D15 : L2.DefAt (L2.KOf KX) mg "gone_on" (Mc.top 15) ["backs", "cells", "room"] := by dsimp only [L2.KOf]; refine' Mc.b9 KX G ?a ?l ?c ?k ?b; (case a => k_is); (case l => k_is); (case c => k_is); (case k => k_is); (case b => exact fun _ _ _ _ _ _ => Mc.bn3 fun _ _ _ => rfl)
  have D16 : L2.DefAt (L2.KOf KX) mg "longer" (Mc.top 16) ["begun", "cells"] := by dsimp only [L2.KOf]; refine' Mc.b9 KX G ?a ?l ?c ?k ?b; (case a => k_is); (case l => k_is); (case c => k_is); (case k => k_is); (case b => exact fun _ _ _ _ _ _ => Mc.bn2 fun _ _ => rfl)
  have D17 : L2.DefAt (L2.KOf KX) mg "word_behind" (Mc.top 17) ["machine", "begun"] := by dsimp only [L2.KOf]; refine' Mc.b9 KX G ?a ?l ?c ?k ?b; (case a => k_is); (case l => k_is); (case c => k_is); (case k => k_is); (case b => exact fun _ _ _ _ _ _ => Mc.bn2 fun _ _ => rfl)
  have D18 : L2.DefAt (L2.KOf KX) mg "one_way" (Mc.top 18) ["machine"] := by dsimp only [L2.KOf]; refine' Mc.b9 KX G ?a ?l ?c ?k ?b; (case a => k_is); (case l => k_is); (case c => k_is); (case k => k_is); (case b => exact fun _ _ _ _ _ _ => Mc.bn1 fun _ => rfl)
  have D19 : L2.DefAt (L2.KOf KX) mg "signs_by" (Mc.top 19) ["reader"] := by dsimp only [L2.KOf]; refine' Mc.b9 KX G ?a ?l ?c ?k ?b; (case a => k_is); (case l => k_is); (case c => k_is); (case k => k_is); (case b => exact fun _ _ _ _ _ _ => Mc.bn1 fun _ => rfl)
  have D20 : L2.DefAt (L2.KOf KX) mg "room_from" (Mc.top 20) ["reader", "room", "strip"] := by dsimp only [L2.KOf]; refine' Mc.b9 KX G ?a ?l ?c ?k ?b; (case a => k_is); (case l => k_is); (case c => k_is); (case k => k_is); (case b => exact fun _ _ _ _ _ _ => Mc.bn3 fun _ _ _ => rfl)
  have D21 : L2.DefAt (L2.KOf KX) mg "room_by" (Mc.top 21) ["reader", "strip"] := by dsimp only [L2.KOf]; refine' Mc.b9 KX G ?a ?l ?c ?k ?b; (case a => k_is); (case l => k_is); (case c => k_is); (case k => k_is); (case b => exact fun _ _ _ _ _ _ => Mc.bn2 fun _ _ => rfl)
  have D22 : L2.DefAt (L2.KOf KX) mg "word_by" (Mc.top 22) ["reader", "strip"] := by dsimp only [L2.KOf]; refine' Mc.b9 KX G ?a ?l ?c ?k ?b; (case a => k_is); (case l => k_is); (case c => k_is); (case k => k_is); (case b => exact fun _ _ _ _ _ _ => Mc.bn2 fun _ _ => rfl)
  have D24 : L2.DefAt (L2.KOf KX) mg "_law_cell" (Mc.top 24) ["_law_script", "_law_k"] := by dsimp only [L2.KOf]; refine' Mc.b9 KX G ?a ?l ?c ?k ?b; (case a => k_is); (case l => k_is); (case c => k_is); (case k => k_is); (case b => exact fun _ _ _ _ _ _ => Mc.bn2 fun _ _ => rfl)
  have D25 : L2.DefAt (L2.KOf KX) mg "_law_end" (Mc.top 25) ["_law_number", "_law_rooms"] := by dsimp only [L2.KOf]; refine' Mc.b9 KX G ?a ?l ?c ?k ?b; (case a => k_is); (case l => k_is); (case c => k_is); (case k => k_is); (case b => exact fun _ _ _ _ _ _ => Mc.bn2 fun _ _ => rfl)
  have D26 : L2.DefAt (L2.KOf KX) mg "_law_digit_row" (Mc.top 26) ["_law_number", "_law_rooms", "_law_signs"] := by dsimp only [L2.KOf]; refine' Mc.b9 KX G ?a ?l ?c ?k ?b; (case a => k_is); (case l => k_is); (case c => k_is); (case k => k_is); (case b => exact fun _ _ _ _ _ _ => Mc.bn3 fun _ _ _ => rfl)
  have D27 : L2.DefAt (L2.KOf KX) mg "_law_mixed_row" (Mc.top 27) ["_law_number", "_law_rooms", "_law_signs"] := by dsimp only [L2.KOf]; refine' Mc.b9 KX G ?a ?l ?c ?k ?b; (case a => k_is); (case l => k_is); (case c => k_is); (case k => k_is); (case b => exact fun _ _ _ _ _ _ => Mc.bn3 fun _ _ _ => rfl)
  have D28 : L2.DefAt (L2.KOf KX) mg "_law_machine" (Mc.top 28) ["_law_script", "_law_at", "_law_rooms", "_law_signs"] := by dsimp only [L2.KOf]; refine' Mc.b9 KX G ?a ?l ?c ?k ?b; (case a => k_is); (case l => k_is); (case c => k_is); (case k => k_is); (case b => exact fun _ _ _ _ _ _ => Mc.bn4 fun _ _ _ _ => rfl)
  have D29 : L2.DefAt (L2.KOf KX) mg "_law_strip" (Mc.top 29) ["_law_script", "_law_at", "_law_size", "_law_signs"] := by dsimp only [L2.KOf]; refine' Mc.b9 KX G ?a ?l ?c ?k ?b; (case a => k_is); (case l => k_is); (case c => k_is); (case k => k_is); (case b => exact fun _ _ _ _ _ _ => Mc.bn4 fun _ _ _ _ => rfl)
  have D30 : L2.DefAt (L2.KOf KX) mg "_law_step" (Mc.top 30) ["_law_machine_here", "_law_strip_here", "_law_stand"] := by dsimp only [L2.KOf]; refine' Mc.b9 KX G ?a ?l ?c ?k ?b; (case a => k_is); (case l => k_is); (case c => k_is); (case k => k_is); (case b => exact fun _ _ _ _ _ _ => Mc.bn3 fun _ _ _ => rfl)
  have D31 : L2.DefAt (L2.KOf KX) mg "_law_stands" (Mc.top 31) ["_law_machine_here", "_law_strip_here"] := by dsimp only [L2.KOf]; refine' Mc.b9 KX G ?a ?l ?c ?k ?b; (case a => k_is); (case l => k_is); (case c => k_is); (case k => k_is); (case b => exact fun _ _ _ _ _ _ => Mc.bn2 fun _ _ => rfl)
  have D32 : L2.DefAt (L2.KOf KX) mg "_law_says" (Mc.top 32) ["_law_machine_here", "_law_strip_here"] := by dsimp only [L2.KOf]; refine' Mc.b9 KX G ?a ?l ?c ?k ?b; (case a => k_is); (case l => k_is); (case c => k_is); (case k => k_is); (case b => exact fun _ _ _ _ _ _ => Mc.bn2 fun _ _ => rfl)
  have D33 : L2.DefAt (L2.KOf KX) mg "_law_onward" (Mc.top 33) ["_law_script", "_law_at", "_law_rooms", "_law_signs"] := by dsimp only [L2.KOf]; refine' Mc.b9 KX G ?a ?l ?c ?k ?b; (case a => k_is); (case l => k_is); (case c => k_is); (case k => k_is); (case b => exact fun _ _ _ _ _ _ => Mc.bn4 fun _ _ _ _ => rfl)
  have D34 : L2.DefAt (L2.KOf KX) mg "_law_counter" (Mc.top 34) ["_law_cell_here", "_law_signs"] := by dsimp only [L2.KOf]; refine' Mc.b9 KX G ?a ?l ?c ?k ?b; (case a => k_is); (case l => k_is); (case c => k_is); (case k => k_is); (case b => exact fun _ _ _ _ _ _ => Mc.bn2 fun _ _ => rfl)
  have D35 : L2.DefAt (L2.KOf KX) mg "_law_refused" (Mc.top 35) ["_law_oneway", "_law_strip_here", "_law_at"] := by dsimp only [L2.KOf]; refine' Mc.b9 KX G ?a ?l ?c ?k ?b; (case a => k_is); (case l => k_is); (case c => k_is); (case k => k_is); (case b => exact fun _ _ _ _ _ _ => Mc.bn3 fun _ _ _ => rfl)
  have T : Mc.Txt w (L2.KOf KX) mg := by
   dsimp only [L2.KOf]
   refine' Mc.aMJ KX G ?z_enumerate ?z_int ?z_isinstance ?z_len ?z_list ?z_max ?z_min ?z_range ?z_str ?z_tuple ?s_MOST_BEGINNINGS ?s_SIGNS
   (case z_enumerate => k_is); (case z_int => k_is); (case z_isinstance => k_is); (case z_len => k_is); (case z_list => k_is); (case z_max => k_is); (case z_min => k_is); (case z_range => k_is); (case z_str => k_is); (case z_tuple => k_is); (case s_MOST_BEGINNINGS => k_is); (case s_SIGNS => k_is)
  have E_NoStrip : Mc.j0 (L2.KOf KX) mg := by
   dsimp only [L2.KOf]
   refine' Mc.wM KX G ?m ?e1 ?e2 ?e3 ?e4 ?e5 ?e6 ?e7 ?e8 ?p1 ?i1 ?i2 ?i3 ?i4 ?i5
   (case m => k_is)
   (case e1 => k_is)
   (case e2 => k_is); (case e3 => k_is); (case e4 => k_is); (case e5 => k_is); (case e6 => k_is); (case e7 => k_is); (case e8 => k_is)
   (case p1 => k_is); (case i1 => k_is); (case i2 => k_is); (case i3 => k_is); (case i4 => k_is); (case i5 => k_is)
  have Ep_TooMany : ∃ W C, L2.ErrP (L2.KOf KX) mg "TooMany" W C := by
   dsimp only [L2.KOf]
   refine' Mc.aMK KX G ?m ?e1 ?e2 ?e3 ?e4 ?e5 ?e6 ?e7 ?e8 ?n1 ?n2 ?w1 ?w2 ?w3
   (case m => k_is)
   (case e1 => k_is)
   (case e2 => k_is); (case e3 => k_is); (case e4 => k_is); (case e5 => k_is); (case e6 => k_is); (case e7 => k_is); (case e8 => k_is)
   (case n2 => k_is); (case w1 => k_is); (case w3 => k_is)
   (case n1 => refine' L2.aAR ?l ?h; (case l => k_is); (case h => rfl))
   (case w2 => refine' L2.aAR ?l ?h; (case l => k_is); (case h => rfl))
  have LL : ∃ fd, L2.Fun (L2.KOf KX) "law" "law" (Mc.top 36) fa fd /\ ∀ (s : Shared) (u : Value), BindsTo s fd ⟨[u], []⟩ [("_law_script", u)] := by
   dsimp only [L2.KOf]
   refine' Mc.aML KX G hmg ?a4 ?l4 ?c4 ?k4
   (case a4 => k_is); (case l4 => k_is); (case c4 => k_is); (case k4 => k_is)
  obtain ⟨fd, FL, hb⟩ := LL
  exact ⟨fd, hb, fun base TH _ _ TL => Mc.aJJ T E_NoStrip Ep_TooMany D6 D7 D8 D10 D13 D14 D15 D16 D17 (Fl.aOI D18 KX TL (by decide)) D19 D20 D21 D22 D24 D25 D26 D27 D28 D29 D30 D31 D32 D33 D34 D35 FL⟩
end
