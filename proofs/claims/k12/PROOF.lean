import PyProof.Rows.All
import Wide.All
import OpenK.AllK
import Wide.FinOn
import Lean
import PyProof.EqAt
import PyProof.EqKinds
import PyProof.TupleCall
import PyProof.ExcInit
import PyProof.InstStoreFacts
import PyProof.StrLawsFirst
import PyProof.StrLawsIn
import PyProof.StrLaws
import PyProof.StrLawsIdx
import PySem.Challenge.RW_striproam_k12_tables_by_walking
set_option linter.all false
set_option maxRecDepth 100000
set_option maxHeartbeats 4000000

-- CHANGE: your row's module here, as the last of these rows
set_option Elab.async false
set_option linter.all false
set_option maxRecDepth 100000
/-! THE HAND LAYER, for ints, bools, texts, own classes, LISTS and tuples (index, slices, in, append, pop ..), calls, loops. Paste it whole ahead of your own text; what your proof does not reach may be deleted. -/
namespace L2
open PySem PySem.Spec PyProof.Rows

/-- a key: an int or a str -/
abbrev Key := Sum Int Str
def keyIs : Key → Value → Bool
  | .inl k, v => Value.isInt k v
  | .inr x, v => Value.isStrOf x v
def keyH (w : World) : Key → Int
  | .inl k => hashInt k
  | .inr x => hashStr w x
theorem keyIs_shape : ∀ {k : Key} {v : Value}, keyIs k v = true → (∃ i t, k = Sum.inl i ∧ v = Value.int i t) ∨ (∃ x t, k = Sum.inr x ∧ v = Value.str x t)
  | .inl i, v, h => by
    obtain ⟨t, e⟩ := Value.isInt_shape (k := i) (v := v) h
    exact .inl ⟨i, t, rfl, e⟩
  | .inr x, v, h => by
    obtain ⟨t, e⟩ := Value.isStrOf_shape (x := x) (v := v) h
    exact .inr ⟨x, t, rfl, e⟩
theorem keyIs_int (i : Int) (t : Tok) : keyIs (.inl i) (.int i t) = true := by simp [keyIs, Value.isInt]
theorem keyIs_str (x : Str) (t : Tok) : keyIs (.inr x) (.str x t) = true := by simp [keyIs, Value.isStrOf]
theorem key_ll (a b : Int) : decide ((Sum.inl a : Key) = Sum.inl b) = (a == b) := by
  by_cases e : a = b
  · subst e; simp
  · have h : ¬ (Sum.inl a : Key) = Sum.inl b := fun q => e (Sum.inl.inj q)
    rw [decide_eq_false h]
    exact (beq_eq_false_iff_ne.mpr e).symm
theorem key_rr (a b : Str) : decide ((Sum.inr a : Key) = Sum.inr b) = decide (a = b) := by
  by_cases e : a = b
  · subst e; simp
  · have h : ¬ (Sum.inr a : Key) = Sum.inr b := fun q => e (Sum.inr.inj q)
    rw [decide_eq_false h, decide_eq_false e]
theorem key_lr (a : Int) (b : Str) : decide ((Sum.inl a : Key) = Sum.inr b) = false := decide_eq_false (fun q => nomatch q)
theorem key_rl (a : Str) (b : Int) : decide ((Sum.inr a : Key) = Sum.inl b) = false := decide_eq_false (fun q => nomatch q)

def mixKind (prog : Program) (w : World) : PySem.KeyKind prog w Key where
  is := keyIs
  hash := keyH w
  inj := fun v a b ha hb => by
    rcases keyIs_shape ha with ⟨i, t, rfl, rfl⟩ | ⟨x, t, rfl, rfl⟩
    · rcases keyIs_shape hb with ⟨j, u, rfl, e⟩ | ⟨y, u, rfl, e⟩
      · injection e with e1 _; rw [e1]
      · exact nomatch e
    · rcases keyIs_shape hb with ⟨j, u, rfl, e⟩ | ⟨y, u, rfl, e⟩
      · exact nomatch e
      · injection e with e1 _; rw [e1]
  byValue := fun k v h => by
    rcases keyIs_shape h with ⟨i, t, rfl, rfl⟩ | ⟨x, t, rfl, rfl⟩ <;> rfl
  pyHash := fun hv h => by
    rcases keyIs_shape hv with ⟨i, t, rfl, rfl⟩ | ⟨x, t, rfl, rfl⟩
    · exact wpAny_pyHash_int h
    · exact wpAny_pyHash_str h
  eqBool := fun hu hv h => by
    rcases keyIs_shape hu with ⟨i, t, rfl, rfl⟩ | ⟨x, t, rfl, rfl⟩
    · rcases keyIs_shape hv with ⟨j, u, rfl, rfl⟩ | ⟨y, u, rfl, rfl⟩
      · rw [key_ll] at h; exact wpAny_eqBool_int h
      · rw [key_lr] at h; exact SeqAt.EqAt.int_str i t y u _ _ _ _ h
    · rcases keyIs_shape hv with ⟨j, u, rfl, rfl⟩ | ⟨y, u, rfl, rfl⟩
      · rw [key_rl] at h; exact SeqAt.EqAt.str_int x t j u _ _ _ _ h
      · rw [key_rr] at h; exact wpAny_eqBool_str h
  «strs» := fun k x t v h => by
    rcases keyIs_shape h with ⟨i, u, rfl, e⟩ | ⟨y, u, rfl, e⟩
    · exact nomatch e
    · injection e with e1 _
      subst e1
      cases v <;> rfl

theorem mixKind_is (prog : Program) (w : World) (k : Key) (v : Value) : (mixKind prog w).is k v = keyIs k v := rfl
theorem mixKind_int (prog : Program) (w : World) (i : Int) (t : Tok) : (mixKind prog w).is (.inl i) (.int i t) = true := keyIs_int i t
theorem mixKind_str (prog : Program) (w : World) (x : Str) (t : Tok) : (mixKind prog w).is (.inr x) (.str x t) = true := keyIs_str x t
end L2

namespace L2
open PySem PySem.Spec PyProof.Rows

/-- a value, without the heap -/
inductive V where
  | non | bl (b : Bool) | int (i : Int) | str (x : Str) | byt (b : Array UInt8) | flt (b : UInt64) | ref (a : Addr) | ty (n : String)
  deriving DecidableEq

def RelV : V → Value → Prop
  | .non, u => u = Value.none
  | .bl b, u => u = Value.bool b
  | .int i, u => ∃ t, u = Value.int i t
  | .str x, u => ∃ t, u = Value.str x t
  | .byt b, u => ∃ t, u = Value.bytes b t
  | .flt b, u => ∃ t, u = Value.float b t
  | .ref a, u => u = Value.ref a
  | .ty n, u => u = Value.type n

abbrev Vals : List V → List Value → Prop := Paired RelV
theorem Vals.length {xs : List V} {us : List Value} (r : Vals xs us) : xs.length = us.length := Paired.length r
theorem Vals.get : ∀ {xs : List V} {us : List Value} {i : Nat} {x : V}, Vals xs us → xs[i]? = some x → ∃ u, us[i]? = some u ∧ RelV x u
  | _, _, _, _, .nil, e => by simp at e
  | _, _, 0, _, .cons r _, e => by simp at e; subst e; exact ⟨_, rfl, r⟩
  | _, _, i + 1, x, .cons _ t, e => by
    obtain ⟨u, h1, h2⟩ := Vals.get (i := i) (x := x) t (by simpa using e)
    exact ⟨u, by simpa using h1, h2⟩
theorem Vals.set {x : V} {u : Value} (r : RelV x u) : ∀ {xs : List V} {us : List Value} (i : Nat), Vals xs us → Vals (xs.set i x) (us.set i u)
  | _, _, _, .nil => .nil
  | _, _, 0, .cons _ t => .cons r t
  | _, _, i + 1, .cons q t => .cons q (Vals.set r i t)
theorem Vals.append : ∀ {xs ys : List V} {us ws : List Value}, Vals xs us → Vals ys ws → Vals (xs ++ ys) (us ++ ws)
  | _, _, _, _, .nil, s => s
  | _, _, _, _, .cons r t, s => .cons r (Vals.append t s)
theorem Vals.take : ∀ {xs : List V} {us : List Value} (n : Nat), Vals xs us → Vals (xs.take n) (us.take n)
  | _, _, 0, _ => .nil
  | _, _, _ + 1, .nil => .nil
  | _, _, n + 1, .cons r t => .cons r (Vals.take n t)
theorem Vals.drop : ∀ {xs : List V} {us : List Value} (n : Nat), Vals xs us → Vals (xs.drop n) (us.drop n)
  | _, _, 0, r => r
  | _, _, _ + 1, .nil => .nil
  | _, _, n + 1, .cons _ t => Vals.drop n t
theorem Vals.none_of : ∀ {xs : List V} {us : List Value} {i : Nat}, Vals xs us → xs[i]? = none → us[i]? = none := fun {xs us i} r e => by
  have h1 := r.length
  have h2 : xs.length ≤ i := List.getElem?_eq_none_iff.mp e
  exact List.getElem?_eq_none_iff.mpr (by omega)

def RelO : Option V → Option Value → Prop
  | some v, some u => RelV v u
  | none, none => True
  | _, _ => False
def KV {κ : Type} : List (κ × V) → List (κ × Value) → Prop := Paired fun (p : κ × V) (q : κ × Value) => p.1 = q.1 ∧ RelV p.2 q.2

/-- a key of a dict (00_mix): an int or a text -/
def kV : Key → V
  | .inl i => .int i
  | .inr x => .str x

/-- what stands at a tracked address -/
inductive HO where
  /-- a list -/
  | lst (xs : List V)
  /-- a tuple (never changes) -/
  | tup (xs : List V)
  /-- a dict whose keys are ints and texts; one whose keys are tuples of ints and texts (the empty one is both) -/
  | dK (kvs : List (Key × V)) | dT (kvs : List (List Key × V))
  /-- a set of ints: its members, its size -/
  | set (S : Int → Bool) (n : Nat)
  /-- an instance of the class at C, its dict at dx, its attributes -/
  | ins (C dx : Addr) (fs : List (Str × V))
  /-- the dict of the instance at x -/
  | own (x : Addr)
  /-- the dict of an exception -/
  | xd (fs : List (Str × V))
  /-- a bound method, f of x -/
  | met (f x : Addr)
  /-- a range object lo, lo + 1, .. below hi -/
  | rng (lo hi : Int)
  /-- a thing that is known to the object (the script; a dict while a loop walks it): read, never written while it is so -/
  | frz (o : Obj) (u : HO)
  /-- a code object's table -/
  | tbl (ps : Array Value)
  /-- any other thing, by what is true of its one object (a def of one's own: SetO a S n := HO.ext fun h => ..) -/
  | ext (φ : Heap → Prop)

abbrev Hp := Addr → Option HO
def upd (H : Hp) (a : Addr) (o : HO) : Hp := fun b => if b = a then some o else H b
theorem upd_same {H : Hp} {a : Addr} {o : HO} : upd H a o a = some o := by unfold upd; rw [if_pos rfl]
theorem upd_ne {H : Hp} {a b : Addr} {o : HO} (h : b ≠ a) : upd H a o b = H b := by unfold upd; rw [if_neg h]
theorem upd_upd {H : Hp} {a : Addr} {o u : HO} : upd (upd H a o) a u = upd H a u := by
  funext b; unfold upd; split <;> rfl
/-- two objects of different content stand apart -/
theorem ne_of {H : Hp} {a b : Addr} {o u : HO} (h : H a = some o) (h' : H b = some u) (d : o ≠ u) : a ≠ b := by
  intro e; subst e; rw [h] at h'; exact d (Option.some.inj h')
theorem ne_of_none {H : Hp} {a b : Addr} {o : HO} (h : H a = some o) (h' : H b = none) : a ≠ b := by
  intro e; subst e; rw [h] at h'; cases h'

section
variable (P : Program) (w : World)
def ObjOk (H : Hp) (h : Heap) (a : Addr) : HO → Prop
  | .lst xs => xs.length ≤ sizeLine ∧ ∃ (its : List Value) (n : Nat), Vals xs its ∧ h.get? a = some { cls := .type "list", data := .seq its.toArray n }
  | .tup xs => xs.length ≤ sizeLine ∧ ∃ its : List Value, Vals xs its ∧ IsTup h a its.toArray
  | .dK kvs => kvs.length ≤ sizeLine ∧ (a == sysModules) = false ∧ ∃ vs, KV kvs vs ∧ h.DictOf (mixKind P w) a vs
  | .dT kvs => kvs.length ≤ sizeLine ∧ (a == sysModules) = false ∧ ∃ xs : List (List Key × Addr × Value),
      Paired (fun (p : List Key × V) (q : List Key × Addr × Value) => p.1 = q.1 ∧ H q.2.1 = some (.tup (p.1.map kV)) ∧ RelV p.2 q.2.2) kvs xs ∧
      ∃ o es ep, h.get? a = some o ∧ o.ExactDict ∧ o.data = .dict es ep ∧ es.toList = xs.map (entryOfKey (tupleKind (mixKind P w))) ∧ (xs.map (·.1)).Nodup
  | .set S n => h.SetOf (intKind P w) a S n
  | .ins C dx fs => H dx = some (.own a) ∧ fs.length ≤ 1000 ∧ dx ≠ a ∧ h.get? a = some (PySem.W.instObj C dx) ∧
      ∃ mA, h.Ns1 dx mA ∧ (∀ f, RelO (fs.lookup f) (mA f)) ∧ PySem.Within mA (fs.map (·.1))
  | .own _ => ∃ o, h.get? a = some o
  | .xd fs => ∃ mA, h.Ns1 a mA ∧ ∀ f, RelO (fs.lookup f) (mA f)
  | .rng lo hi => ∃ t u v, h.get? a = some { cls := .type "range", data := .fields #[.int lo t, .int hi u, .int 1 v] }
  | .frz o u => h.get? a = some o ∧ ObjOk H h a u
  | .tbl ps => h.get? a = some { cls := .none, data := .fields ps }
  | .met f x => h.get? a = some (PySem.W.methodObj (.ref f) (.ref x))
  | .ext φ => φ h ∧ (∃ o, h.get? a = some o) ∧ ∀ h1 h2 : Heap, φ h1 → (∀ o, h1.get? a = some o → h2.get? a = some o) → φ h2
/-- the abstract heap is held -/
def HOk (H : Hp) (h : Heap) : Prop := ∀ a o, H a = some o → ObjOk P w H h a o
end

section
variable {P : Program} {w : World} {H H' : Hp} {h h' : Heap} {a : Addr} {o : HO}
theorem ObjOk.lt (x : ObjOk P w H h a o) : a < h.objs.size := by
  cases o with
  | lst xs => obtain ⟨_, _, _, _, e⟩ := x; exact Heap.lt_size e
  | tup xs => obtain ⟨_, _, _, p⟩ := x; exact p.lt
  | dK kvs => obtain ⟨_, _, _, _, o, _, _, e, _⟩ := x; exact Heap.lt_size e
  | dT kvs => obtain ⟨_, _, _, _, o, _, _, e, _⟩ := x; exact Heap.lt_size e
  | set S n => obtain ⟨o, _, _, _, e, _⟩ := x; exact Heap.lt_size e
  | ins C dx fs => obtain ⟨_, _, _, e, _⟩ := x; exact Heap.lt_size e
  | own y => obtain ⟨_, e⟩ := x; exact Heap.lt_size e
  | xd fs => obtain ⟨_, ⟨_, _, _, e, _⟩, _⟩ := x; exact Heap.lt_size e
  | rng lo hi => obtain ⟨_, _, _, e⟩ := x; exact Heap.lt_size e
  | frz ob u => obtain ⟨e, _⟩ := x; exact Heap.lt_size e
  | tbl ps => exact Heap.lt_size (show h.get? a = some _ from x)
  | met f y => exact Heap.lt_size (show h.get? a = some _ from x)
  | ext φ => obtain ⟨_, ⟨_, e⟩, _⟩ := x; exact Heap.lt_size e
theorem Paired.mapP {α β : Type} {F G : α → β → Prop} : ∀ {l₁ : List α} {l₂ : List β}, Paired F l₁ l₂ → (∀ a b, F a b → G a b) → Paired G l₁ l₂
  | _, _, .nil, _ => .nil
  | _, _, .cons r t, f => .cons (f _ _ r) (Paired.mapP t f)
theorem Paired.imp' {α β : Type} {F G : α → β → Prop} (f : ∀ a b, F a b → G a b) {l₁ : List α} {l₂ : List β} (r : Paired F l₁ l₂) : Paired G l₁ l₂ := Paired.mapP r f
/-- what an object's description leans on: its own object, its own dict, the tuples -/
theorem ObjOk.stay (x : ObjOk P w H h a o) (k : ∀ b u, (b = a ∨ H b = some (.own a)) → h.get? b = some u → h'.get? b = some u)
    (ho : ∀ b, H b = some (.own a) → H' b = some (.own a)) (ht : ∀ b xs, H b = some (.tup xs) → H' b = some (.tup xs)) : ObjOk P w H' h' a o := by
  induction o with
  | lst xs => obtain ⟨z, its, n, r, e⟩ := x; exact ⟨z, its, n, r, k _ _ (.inl rfl) e⟩
  | tup xs => obtain ⟨z, its, r, ob, e, c⟩ := x; exact ⟨z, its, r, ob, k _ _ (.inl rfl) e, c⟩
  | dK kvs => obtain ⟨z, y, vs, r, ob, es, ep, e, c⟩ := x; exact ⟨z, y, vs, r, ob, es, ep, k _ _ (.inl rfl) e, c⟩
  | dT kvs =>
    obtain ⟨z, y, xs, r, ob, es, ep, e, c⟩ := x
    exact ⟨z, y, xs, Paired.mapP r fun p q z => ⟨z.1, ht _ _ z.2.1, z.2.2⟩, ob, es, ep, k _ _ (.inl rfl) e, c⟩
  | set S n => obtain ⟨ob, es, ep, t, e, c⟩ := x; exact ⟨ob, es, ep, t, k _ _ (.inl rfl) e, c⟩
  | ins C dx fs =>
    obtain ⟨d, z, ne, e, mA, ⟨od, es, ep, e2, c⟩, r⟩ := x
    exact ⟨ho _ d, z, ne, k _ _ (.inl rfl) e, mA, ⟨od, es, ep, k _ _ (.inr d) e2, c⟩, r⟩
  | own y => obtain ⟨ob, e⟩ := x; exact ⟨ob, k _ _ (.inl rfl) e⟩
  | xd fs => obtain ⟨mA, ⟨od, es, ep, e, c⟩, r⟩ := x; exact ⟨mA, ⟨od, es, ep, k _ _ (.inl rfl) e, c⟩, r⟩
  | rng lo hi => obtain ⟨t, u, v, e⟩ := x; exact ⟨t, u, v, k _ _ (.inl rfl) e⟩
  | frz ob u ih => obtain ⟨e, q⟩ := x; exact ⟨k _ _ (.inl rfl) e, ih q⟩
  | tbl ps =>
    have e : h.get? a = some { cls := .none, data := .fields ps } := x
    show h'.get? a = some { cls := .none, data := .fields ps }
    exact k a _ (.inl rfl) e
  | met f y =>
    have e : h.get? a = some (PySem.W.methodObj (.ref f) (.ref y)) := x
    show h'.get? a = some (PySem.W.methodObj (.ref f) (.ref y))
    exact k a _ (.inl rfl) e
  | ext φ => obtain ⟨p, ⟨o, e⟩, st⟩ := x; exact ⟨st _ _ p fun o q => k _ _ (.inl rfl) q, ⟨o, k _ _ (.inl rfl) e⟩, st⟩
theorem HOk.lt (x : HOk P w H h) (e : H a = some o) : a < h.objs.size := (x a o e).lt
theorem HOk.fresh (x : HOk P w H h) (e : h.objs.size ≤ a) : H a = none := by
  cases q : H a with
  | none => rfl
  | some u => exact absurd (Nat.lt_of_lt_of_le (x.lt q) e) (Nat.lt_irrefl _)
/-- every object of the heap is kept -/
theorem HOk.kept (x : HOk P w H h) (k : ∀ b u, h.get? b = some u → h'.get? b = some u) : HOk P w H h' := fun a o e =>
  (x a o e).stay (fun b u _ q => k b u q) (fun _ q => q) fun _ _ q => q
/-- a new object is laid and tracked -/
theorem HOk.laid (x : HOk P w H h) (k : ∀ b u, h.get? b = some u → h'.get? b = some u) (hp : h.objs.size ≤ a) (new : ObjOk P w (upd H a o) h' a o) : HOk P w (upd H a o) h' := fun b u e => by
  have hn := x.fresh hp
  by_cases hb : b = a
  · subst hb; rw [upd_same] at e; cases e; exact new
  · rw [upd_ne hb] at e
    exact (x b u e).stay (fun c v _ q => k c v q) (fun c q => by rw [upd_ne (ne_of_none q hn)]; exact q) fun c xs q => by rw [upd_ne (ne_of_none q hn)]; exact q
end

/-- what may be read as u: it is u, or a known u -/
def Rd (H : Hp) (a : Addr) (u : HO) : Prop := H a = some u ∨ ∃ o, H a = some (.frz o u)
theorem Rd.of {H : Hp} {a : Addr} {u : HO} (h : H a = some u) : Rd H a u := .inl h
theorem Rd.ok {P : Program} {w : World} {H : Hp} {h : Heap} {a : Addr} {u : HO} (r : Rd H a u) (x : HOk P w H h) : ObjOk P w H h a u := by
  rcases r with r | ⟨o, r⟩
  · exact x a u r
  · obtain ⟨_, q⟩ := x a _ r
    exact q
/-- what may be written -/
def Mut : Option HO → Prop
  | some (.lst _) => True
  | some (.dK _) => True
  | some (.dT _) => True
  | some (.set _ _) => True
  | some (.ins _ _ _) => True
  | some (.ext _) => True
  | _ => False
section
variable {P : Program} {w : World} {H : Hp} {h h' : Heap} {x e : Addr} {o' : HO}
/-- the object at e is changed: x itself, or the dict of the instance x -/
theorem HOk.write (ok : HOk P w H h) (mu : Mut (H x)) (he : e = x ∨ H e = some (.own x)) (k : ∀ b u, b ≠ e → h.get? b = some u → h'.get? b = some u) (heo : ∃ u, h'.get? e = some u)
    (new : ObjOk P w (upd H x o') h' x o') : HOk P w (upd H x o') h' := fun b u q => by
  have nown : ∀ c y, H c = some (.own y) → c ≠ x := fun c y r z => by subst z; rw [r] at mu; exact mu
  have ntup : ∀ c xs, H c = some (.tup xs) → c ≠ x := fun c xs r z => by subst z; rw [r] at mu; exact mu
  by_cases hb : b = x
  · subst hb; rw [upd_same] at q; cases q; exact new
  · rw [upd_ne hb] at q
    by_cases hbe : b = e
    · have q' : H b = some (.own x) := by
        rcases he with z | z
        · exact absurd (hbe.trans z) hb
        · rw [hbe]; exact z
      rw [q] at q'; cases q'
      obtain ⟨v, hv⟩ := heo
      exact ⟨v, by rw [hbe]; exact hv⟩
    · refine (ok b u q).stay (fun c v hc r => k c v ?_ r) (fun c r => by rw [upd_ne (nown c b r)]; exact r) fun c xs r => by rw [upd_ne (ntup c xs r)]; exact r
      rcases hc with rfl | hc
      · exact hbe
      · rintro rfl
        rcases he with z | z
        · exact nown c b hc z
        · rw [hc] at z; cases z; exact hb rfl
end

/-! ### kept unless tracked; of the frames at fs (the callers') the slots may change (an exception that passes writes there); of the records at ex (iterators) nothing is said -/
structure Un (fs ex : List Addr) (H H' : Hp) (h h' : Heap) : Prop where
  keep : ∀ b o, h.get? b = some o → H b = none → b ∉ fs → b ∉ ex → h'.get? b = some o
  slot : ∀ b o, h.get? b = some o → H b = none → b ∈ fs → b ∉ ex → ∃ sl, h'.get? b = some { o with slots := sl }
  free : ∀ b o, h.get? b = some o → H b = none → b ∉ ex → H' b = none
  there : ∀ b o, h.get? b = some o → b ∉ ex → ∃ o', h'.get? b = some o'
  tups : ∀ b xs, H b = some (.tup xs) → H' b = some (.tup xs)
  frzs : ∀ b o u, H b = some (.frz o u) → H' b = some (.frz o u)
  tbls : ∀ b ps, H b = some (.tbl ps) → ∃ more, H' b = some (.tbl (ps ++ more))
section
variable {fs fs' ex ex' : List Addr} {H H1 H2 : Hp} {h h1 h2 h' : Heap} {a x e : Addr} {o : HO}
theorem Un.any (u : Un fs ex H H1 h h1) {b : Addr} {ob : Obj} (q : h.get? b = some ob) (n : H b = none) (hx : b ∉ ex) : ∃ sl, h1.get? b = some { ob with slots := sl } := by
  by_cases hb : b ∈ fs
  · exact u.slot b ob q n hb hx
  · exact ⟨ob.slots, u.keep b ob q n hb hx⟩
theorem Un.trans (a : Un fs ex H H1 h h1) (b : Un fs ex H1 H2 h1 h2) : Un fs ex H H2 h h2 where
  keep := fun c ob q n hc hx => b.keep c ob (a.keep c ob q n hc hx) (a.free c ob q n hx) hc hx
  slot := fun c ob q n hc hx => by
    obtain ⟨sl, e1⟩ := a.slot c ob q n hc hx
    obtain ⟨sl', e2⟩ := b.slot c _ e1 (a.free c ob q n hx) hc hx
    exact ⟨sl', e2⟩
  free := fun c ob q n hx => by
    obtain ⟨o', e1⟩ := a.there c ob q hx
    exact b.free c o' e1 (a.free c ob q n hx) hx
  there := fun c ob q hx => by
    obtain ⟨o', e1⟩ := a.there c ob q hx
    exact b.there c o' e1 hx
  tups := fun c xs q => b.tups c xs (a.tups c xs q)
  frzs := fun c ob xs q => b.frzs c ob xs (a.frzs c ob xs q)
  tbls := fun c ps q => by
    obtain ⟨m1, e1⟩ := a.tbls c ps q
    obtain ⟨m2, e2⟩ := b.tbls c _ e1
    exact ⟨m1 ++ m2, by rw [e2, Array.append_assoc]⟩
theorem Un.kept (k : ∀ b u, h.get? b = some u → h'.get? b = some u) : Un fs ex H H h h' :=
  ⟨fun b ob q _ _ _ => k b ob q, fun b ob q _ _ _ => ⟨ob.slots, k b ob q⟩, fun _ _ _ n _ => n, fun b ob q _ => ⟨ob, k b ob q⟩, fun _ _ q => q, fun _ _ _ q => q, fun _ ps q => ⟨#[], by rw [q]; simp⟩⟩
theorem Un.refl : Un fs ex H H h h := Un.kept fun _ _ q => q
theorem Un.laid (k : ∀ b u, h.get? b = some u → h'.get? b = some u) (hp : h.objs.size ≤ a) (hn : H a = none) : Un fs ex H (upd H a o) h h' where
  keep := fun b u q _ _ _ => k b u q
  slot := fun b u q _ _ _ => ⟨u.slots, k b u q⟩
  free := fun b u q n _ => by rw [upd_ne (Nat.ne_of_lt (Nat.lt_of_lt_of_le (Heap.lt_size q) hp))]; exact n
  there := fun b u q _ => ⟨u, k b u q⟩
  tups := fun b xs q => by rw [upd_ne (ne_of_none q hn)]; exact q
  frzs := fun b u xs q => by rw [upd_ne (ne_of_none q hn)]; exact q
  tbls := fun b ps q => ⟨#[], by rw [upd_ne (ne_of_none q hn), q]; simp⟩
theorem Un.write (mu : Mut (H x)) (he : e = x ∨ H e = some (.own x)) (k : ∀ b u, b ≠ e → h.get? b = some u → h'.get? b = some u) (heo : ∃ u, h'.get? e = some u) : Un fs ex H (upd H x o) h h' := by
  have hx : ∀ b, H b = none → b ≠ x := fun b n z => by subst z; rw [n] at mu; exact mu
  have hb : ∀ b, H b = none → b ≠ e := fun b n z => by
    subst z
    rcases he with r | r
    · exact hx b n r
    · rw [n] at r; cases r
  have hm : ∀ b u, H b = some u → ¬ Mut (some u) → b ≠ x := fun b u q nm z => by subst z; rw [q] at mu; exact nm mu
  refine ⟨fun b u q n _ _ => k b u (hb b n) q, fun b u q n _ _ => ⟨u.slots, k b u (hb b n) q⟩, fun b u q n _ => by rw [upd_ne (hx b n)]; exact n, fun b u q _ => ?_,
    fun b xs q => by rw [upd_ne (hm b _ q fun z => z)]; exact q, fun b u xs q => by rw [upd_ne (hm b _ q fun z => z)]; exact q, fun b ps q => ⟨#[], by rw [upd_ne (hm b _ q fun z => z), q]; simp⟩⟩
  by_cases hbe : b = e
  · subst hbe; exact heo
  · exact ⟨u, k b u hbe q⟩
theorem Un.mono (u : Un fs ex H H1 h h1) (hs : ∀ b ∈ fs, b ∈ fs') (hx : ∀ b ∈ ex, b ∈ ex') : Un fs' ex' H H1 h h1 :=
  ⟨fun b ob q n hb he => u.keep b ob q n (fun z => hb (hs b z)) fun z => he (hx b z), fun _ _ q n _ he => u.any q n fun z => he (hx _ z), fun b ob q n he => u.free b ob q n fun z => he (hx b z), fun b ob q he => u.there b ob q fun z => he (hx b z), u.tups, u.frzs, u.tbls⟩
end

/-! ### the heap without what is tracked -/
def trk (h : Heap) (H : Hp) : List Addr := (List.range h.objs.size).filter fun a => (H a).isSome
def hidT (h : Heap) (H : Hp) : Heap := PySem.W.hideAll h (trk h H)
theorem hidT_size (h : Heap) (H : Hp) : (hidT h H).objs.size = h.objs.size := PySem.W.hideAll_size _ _
theorem hidT_get {h : Heap} {H : Hp} {b : Addr} {o : Obj} (e : h.get? b = some o) (n : H b = none) : (hidT h H).get? b = some o :=
  PySem.W.hideAll_get _ e fun hm => by
    have q : (H b).isSome = true := (List.mem_filter.mp hm).2
    rw [n] at q; simp at q
theorem of_hidT {h : Heap} {H : Hp} {b : Addr} {o : Obj} (e : (hidT h H).get? b = some o) : h.get? b = some o ∧ H b = none := by
  have e' : h.get? b = some o := PySem.W.of_hideAll (trk h H) e
  refine ⟨e', ?_⟩
  cases q : H b with
  | none => rfl
  | some x =>
    have hm : b ∈ trk h H := List.mem_filter.mpr ⟨List.mem_range.mpr (Heap.lt_size e'), by simp [q]⟩
    have z : (hidT h H).get? b = none := PySem.W.hideAll_none (trk h H) hm
    rw [z] at e; cases e

/-! ### OpenK's ledger, filled with every new object but one -/
def allNews (g h : Heap) (L : Addr) : List (Addr × Obj) := (List.range h.objs.size).filterMap fun a => if a = L ∨ (g.get? a).isSome = true then none else (h.get? a).map fun o => (a, o)
theorem mem_allNews {g h : Heap} {L a : Addr} {o : Obj} (h1 : a ≠ L) (h2 : g.get? a = none) (h3 : h.get? a = some o) : (a, o) ∈ allNews g h L :=
  List.mem_filterMap.mpr ⟨a, List.mem_range.mpr (Heap.lt_size h3), by simp [h1, h2, h3]⟩
theorem of_mem_allNews {g h : Heap} {L : Addr} {p : Addr × Obj} (hp : p ∈ allNews g h L) : p.1 ≠ L ∧ g.get? p.1 = none ∧ h.get? p.1 = some p.2 := by
  obtain ⟨b, _, e⟩ := List.mem_filterMap.mp hp
  split at e
  · cases e
  · rename_i hn
    cases q : h.get? b with
    | none => rw [q] at e; simp at e
    | some u =>
      rw [q] at e
      simp only [Option.map_some, Option.some.injEq] at e
      subst e
      refine ⟨fun z => hn (.inl z), ?_, q⟩
      show g.get? b = none
      cases r : g.get? b with
      | none => rfl
      | some v => exact (hn (.inr (by simp [r]))).elim
def rest (g h : Heap) (L d : Addr) : List (Addr × Obj) := (allNews g h L).filter fun p => decide (p.1 ≠ d)
theorem rest_ne {g h : Heap} {L d : Addr} : ∀ p ∈ rest g h L d, p.1 ≠ d := fun p hp => of_decide_eq_true (List.mem_filter.mp hp).2
theorem mem_rest {g h : Heap} {L d a : Addr} {o : Obj} (h1 : a ≠ L) (h2 : g.get? a = none) (h3 : h.get? a = some o) (h4 : a ≠ d) : (a, o) ∈ rest g h L d :=
  List.mem_filter.mpr ⟨mem_allNews h1 h2 h3, decide_eq_true h4⟩
theorem news_all {g h : Heap} {L : Addr} : News g L h (allNews g h L) := fun p hp => let ⟨a, b, c⟩ := of_mem_allNews hp; ⟨c, a, b⟩
theorem news_at {g h : Heap} {L d : Addr} {o : Obj} (h1 : d ≠ L) (h2 : g.get? d = none) (h3 : h.get? d = some o) : News g L h ((d, o) :: rest g h L d) := fun p hp => by
  rcases List.mem_cons.mp hp with rfl | hp
  · exact ⟨h3, h1, h2⟩
  · exact news_all p (List.mem_filter.mp hp).1
/-- behind a rule that changed d alone: all else but the frame is kept -/
theorem kept_of_news {g h h' : Heap} {L d : Addr} {m : Str → Option Value} (k : ∀ b o, g.get? b = some o → h.get? b = some o) (F : Fr g L h' m) (N : News g L h' (rest g h L d)) :
    ∀ b o, b ≠ L → b ≠ d → h.get? b = some o → h'.get? b = some o := fun b o h1 h2 e => by
  cases q : g.get? b with
  | some u =>
    have := k b u q
    rw [e] at this; cases this
    exact F.keep b _ q
  | none => exact (N (b, o) (mem_rest h1 q e h2)).1
end L2

namespace L2
open PySem PySem.Spec PyProof.Rows

/-- the module's facts, over the base: the heap at the law's entry without what is tracked there -/
structure Mod (K : PySem.W.Frag) (mg : Str → Option Value) (base : Heap) : Prop where
  kin : K.In base
  glob : base.Ns mainGlobals mg
  blt : ∃ mb, base.Ns builtinsNs mb ∧ ∀ x : Str, x ≠ "__name__" → mb x = bootBuiltins x
  nolimit : base.NoLimit

/-- the context: a def's body (or a comprehension's block) running. base: fixed through the whole law; s₀, H₀: the entry; outer: the frames whose slots others may change (a def's callers); stack: all frames that run;
   ex: iterators that were made ahead of the entry and are walked here (a comprehension's); fn: the names whose cells were made at the entry (a def: all; a comprehension's block: its own); calm: not within an except suite; pn: pins that every state bears; xe: what is wanted of an exception that leaves the code -/
structure Cx where
  prog : Program
  w : World
  K : PySem.W.Frag
  mg : Str → Option Value
  base : Heap
  A : Around
  N : List Str
  s₀ : Shared
  H₀ : Hp
  env : Env
  outer : List Env
  stack : List Env
  ex : List Addr
  fn : Str → Bool
  calm : Bool
  pn : List (Addr × Obj)
  xe : Value → Shared → Prop
/-- the callers' frames -/
def frs (l : List Env) : List Addr := l.filterMap (·.frame)
abbrev Cx.fs (X : Cx) : List Addr := frs X.outer

def Vis (sc : Scope) (x : Str) : Prop := sc.names.lookup x = some .local ∨ sc.names.lookup x = some .cell ∨ sc.names.lookup x = some .free
def Loc (sc : Scope) (x : Str) : Prop := sc.names.lookup x = some .local ∨ sc.names.lookup x = some .cell
def Look (env : Env) (h : Heap) (m : Str → Option Value) (x : Str) (u : Value) : Prop :=
  (env.kindOf x = some .local ∧ m x = some u) ∨ ((env.kindOf x = some .cell ∨ env.kindOf x = some .free) ∧ ∃ c, env.cells.lookup x = some c ∧ h.IsCell c (some u))

structure Cx.Ok (X : Cx) : Prop where
  mod : Mod X.K X.mg X.base
  kind : X.env.scope.kind = .function
  glob : X.env.globals = mainGlobals
  blt : X.env.builtins = builtinsNs
  above : X.s₀.heap.objs.size ≤ X.env.locals
  inj : ∀ x y c, X.env.cells.lookup x = some c → X.env.cells.lookup y = some c → x = y
  has : ∀ x, (X.env.kindOf x = some .cell ∨ X.env.kindOf x = some .free) → ∃ c, X.env.cells.lookup x = some c
  cab : ∀ x c, X.fn x = true → X.env.cells.lookup x = some c → X.s₀.heap.objs.size ≤ c
  hd : X.calm = true → X.A.handled = none
  frames : X.A.frames = some X.stack
  stk : X.stack = X.outer ∨ (X.stack = X.env :: X.outer ∧ X.env.frame = some X.env.locals)
  exf : ∀ b ∈ X.ex, b ≠ X.env.locals ∧ ∀ x c, X.env.cells.lookup x = some c → c ≠ b
  bs : ∀ b o, X.base.get? b = some o → X.s₀.heap.get? b = some o ∧ X.H₀ b = none
  bsz : X.base.objs.size ≤ X.s₀.heap.objs.size
  noex : ∀ b o, X.base.get? b = some o → b ∉ X.ex
  exfs : ∀ b ∈ X.ex, b ∉ X.fs
  funs : X.s₀.heap.FunFrames X.base X.outer
  frf : ∀ b ∈ X.fs, X.H₀ b = none

structure Inv (X : Cx) (pins : List (Addr × Obj)) (σ : List (Option V)) (H : Hp) (s : Shared) : Prop where
  ok : X.Ok
  os : s.os = X.s₀.os
  bare : AllBare s.gens
  base : Un X.fs X.ex X.H₀ H X.s₀.heap s.heap
  loc : ∃ m, s.heap.Ns X.env.locals m ∧ ∀ (i : Nat) (x : Str) (v : V), X.N[i]? = some x → σ[i]? = some (some v) → Vis X.env.scope x → ∃ u, RelV v u ∧ Look X.env s.heap m x u
  cell : ∀ x c, X.env.cells.lookup x = some c → ∃ v, s.heap.IsCell c v
  free : H X.env.locals = none
  freeC : ∀ x c, X.env.cells.lookup x = some c → H c = none
  pin : ∀ p ∈ X.pn ++ pins, s.heap.get? p.1 = some p.2 ∧ H p.1 = none ∧ p.1 ≠ X.env.locals ∧ p.1 ∉ X.fs ∧ ∀ v, p.2.data ≠ .cell v
  hok : HOk X.prog X.w H s.heap
  len : σ.length = X.N.length

section
variable {X : Cx} {pins : List (Addr × Obj)} {σ : List (Option V)} {H H' : Hp} {s : Shared} {h' : Heap}

theorem Cx.Ok.nofr (ok : X.Ok) {b : Addr} {o : Obj} (e : X.base.get? b = some o) : b ∉ X.fs := fun hb => by
  have := (ok.funs.mem hb).1
  rw [e] at this; cases this
theorem Inv.bs (I : Inv X pins σ H s) : ∀ b o, X.base.get? b = some o → s.heap.get? b = some o ∧ H b = none := fun b o e =>
  ⟨I.base.keep b o (I.ok.bs b o e).1 (I.ok.bs b o e).2 (I.ok.nofr e) (I.ok.noex b o e), I.base.free b o (I.ok.bs b o e).1 (I.ok.bs b o e).2 (I.ok.noex b o e)⟩
theorem Inv.bk (I : Inv X pins σ H s) : ∀ b o, X.base.get? b = some o → s.heap.get? b = some o := fun b o e => (I.bs b o e).1
theorem Inv.mod (I : Inv X pins σ H s) : Mod X.K X.mg X.base := I.ok.mod
theorem Inv.kIn (I : Inv X pins σ H s) : X.K.In s.heap := I.ok.mod.kin.keeps I.bk
theorem Inv.nolimit (I : Inv X pins σ H s) : s.heap.NoLimit := I.ok.mod.nolimit.keeps I.bk
/-- the frame over the base: for OpenK's rules (K.In X.base is I.mod.kin) -/
theorem Inv.fr (I : Inv X pins σ H s) : ∃ m, Fr X.base X.env.locals s.heap m :=
  let ⟨m, hn, _⟩ := I.loc
  ⟨m, hn, I.bk, Nat.le_trans I.ok.bsz I.ok.above⟩
theorem Inv.lt (I : Inv X pins σ H s) : X.env.locals < s.heap.objs.size := let ⟨_, hn, _⟩ := I.loc; hn.lt
theorem Inv.sz (I : Inv X pins σ H s) : X.s₀.heap.objs.size ≤ s.heap.objs.size := Nat.le_trans I.ok.above (Nat.le_of_lt I.lt)
theorem Inv.nofs (I : Inv X pins σ H s) {a : Addr} (h : s.heap.objs.size ≤ a) : a ∉ X.fs := fun hb => by
  obtain ⟨_, o, ho, _⟩ := I.ok.funs.mem hb
  exact absurd (Nat.lt_of_lt_of_le (Heap.lt_size ho) (Nat.le_trans I.sz h)) (Nat.lt_irrefl _)
theorem Inv.cne (I : Inv X pins σ H s) : ∀ x c, X.env.cells.lookup x = some c → c ≠ X.env.locals := fun x c e z => by
  obtain ⟨v, o, ho, hd⟩ := I.cell x c e
  obtain ⟨m, ⟨o', es, ep, ho', hd', _⟩, _⟩ := I.loc
  rw [z, ho'] at ho; cases ho; rw [hd'] at hd; cases hd
theorem Inv.funs (I : Inv X pins σ H s) : s.heap.FunFrames X.base X.outer := by
  have all : ∀ (l : List Env), (∀ b ∈ frs l, b ∈ X.fs) → X.s₀.heap.FunFrames X.base l → s.heap.FunFrames X.base l := by
    intro l
    induction l with
    | nil => intro _ _; trivial
    | cons env r ih =>
      intro hs hl
      obtain ⟨hk, ⟨L, o, hf, hn, ho, hd⟩, hr⟩ := hl
      have hL : L ∈ X.fs := hs L (by unfold frs; rw [List.filterMap_cons, hf]; exact List.mem_cons_self)
      obtain ⟨sl, e⟩ := I.base.slot L o ho (I.ok.frf L hL) hL fun z => I.ok.exfs L z hL
      exact ⟨hk, ⟨L, _, hf, hn, e, hd⟩, ih (fun b hb => hs b (by unfold frs; rw [List.filterMap_cons, hf]; exact List.mem_cons_of_mem _ hb)) hr⟩
  exact all X.outer (fun _ hb => hb) I.ok.funs

/-- the frames that run, for a call -/
theorem Inv.stack (I : Inv X pins σ H s) : s.heap.FunFrames X.base X.stack := by
  rcases I.ok.stk with e | ⟨e, hf⟩
  · rw [e]; exact I.funs
  · rw [e]
    obtain ⟨m, hn, _⟩ := I.loc
    refine .cons (by rw [I.ok.kind]; decide) hf hn ?_ I.funs
    exact Heap.get?_none_of_le (Nat.le_trans I.ok.bsz I.ok.above)
theorem Inv.stkSub (I : Inv X pins σ H s) : ∀ b ∈ frs X.stack, b ∈ X.env.locals :: X.fs := fun b hb => by
  rcases I.ok.stk with e | ⟨e, hf⟩
  · rw [e] at hb; exact List.mem_cons_of_mem _ hb
  · rw [e] at hb
    unfold frs at hb
    rw [List.filterMap_cons, hf] at hb
    exact hb
theorem Inv.stkFree (I : Inv X pins σ H s) : ∀ b ∈ frs X.stack, H b = none := fun b hb => by
  rcases List.mem_cons.mp (I.stkSub b hb) with e | hb
  · rw [e]; exact I.free
  · obtain ⟨_, o, ho, _⟩ := I.ok.funs.mem hb
    exact I.base.free b o ho (I.ok.frf b hb) fun z => I.ok.exfs b z hb

/-- THE STEP: the untracked objects but the frame and the records at ch are kept (the callers' frames up to slots), the frame's map is kept, the new abstract heap is held -/
theorem Inv.step {g' : Array GenState} {t' : Nat} {d' : Drawn} {ch : List Addr} (I : Inv X pins σ H s)
    (hch : ∀ b ∈ ch, (b ∈ X.ex ∨ X.s₀.heap.objs.size ≤ b) ∧ b ≠ X.env.locals ∧ (∀ x c, X.env.cells.lookup x = some c → c ≠ b) ∧ ∀ p ∈ X.pn ++ pins, p.1 ≠ b)
    (keep : ∀ b o, b ≠ X.env.locals → b ∉ X.fs → b ∉ ch → s.heap.get? b = some o → H b = none → h'.get? b = some o)
    (slot : ∀ b o, b ≠ X.env.locals → b ∈ X.fs → b ∉ ch → s.heap.get? b = some o → H b = none → ∃ sl, h'.get? b = some { o with slots := sl }) (free : ∀ b o, b ∉ ch → s.heap.get? b = some o → H b = none → H' b = none)
    (there : ∀ b o, b ∉ ch → s.heap.get? b = some o → ∃ o', h'.get? b = some o')
    (tups : ∀ b xs, H b = some (.tup xs) → H' b = some (.tup xs)) (frzs : ∀ b o u, H b = some (.frz o u) → H' b = some (.frz o u)) (tbls : ∀ b ps, H b = some (.tbl ps) → ∃ more, H' b = some (.tbl (ps ++ more)))
    (ns : ∀ m, s.heap.Ns X.env.locals m → h'.Ns X.env.locals m) (hok : HOk X.prog X.w H' h') (hg : AllBare g') :
    Inv X pins σ H' { s with heap := h', gens := g', drawn := d', toks := t' } := by
  have neL : ∀ b o, X.s₀.heap.get? b = some o → b ≠ X.env.locals := fun b o e => Nat.ne_of_lt (Nat.lt_of_lt_of_le (Heap.lt_size e) I.ok.above)
  have neC : ∀ b o, X.s₀.heap.get? b = some o → b ∉ X.ex → b ∉ ch := fun b o e hx hb => by
    rcases (hch b hb).1 with z | z
    · exact hx z
    · exact absurd (Nat.lt_of_lt_of_le (Heap.lt_size e) z) (Nat.lt_irrefl _)
  have cellK : ∀ x c, X.env.cells.lookup x = some c → ∀ v, s.heap.IsCell c v → h'.IsCell c v := fun x c e v ⟨o, ho, hd⟩ => by
    have nch : c ∉ ch := fun z => (hch c z).2.2.1 x c e rfl
    by_cases hc : c ∈ X.fs
    · obtain ⟨sl, q⟩ := slot c o (I.cne x c e) hc nch ho (I.freeC x c e)
      exact ⟨_, q, hd⟩
    · exact ⟨o, keep c o (I.cne x c e) hc nch ho (I.freeC x c e), hd⟩
  refine ⟨I.ok, I.os, hg, ⟨fun b o e n hb hx => ?_, fun b o e n hb hx => ?_, fun b o e n hx => ?_, fun b o e hx => ?_, fun b xs e => tups b xs (I.base.tups b xs e), fun b o xs e => frzs b o xs (I.base.frzs b o xs e), fun b ps e => ?_⟩, ?_, fun x c e => ?_, ?_, fun x c e => ?_, fun p hp => ?_, hok, I.len⟩
  · exact keep b o (neL b o e) hb (neC b o e hx) (I.base.keep b o e n hb hx) (I.base.free b o e n hx)
  · obtain ⟨sl, e1⟩ := I.base.slot b o e n hb hx
    obtain ⟨sl', e2⟩ := slot b _ (neL b o e) hb (neC b o e hx) e1 (I.base.free b o e n hx)
    exact ⟨sl', e2⟩
  · obtain ⟨o', e1⟩ := I.base.there b o e hx
    exact free b o' (neC b o e hx) e1 (I.base.free b o e n hx)
  · obtain ⟨o', e1⟩ := I.base.there b o e hx
    exact there b o' (neC b o e hx) e1
  · obtain ⟨m1, e1⟩ := I.base.tbls b ps e
    obtain ⟨m2, e2⟩ := tbls b _ e1
    exact ⟨m1 ++ m2, by rw [e2, Array.append_assoc]⟩
  · obtain ⟨m, hn, hl⟩ := I.loc
    refine ⟨m, ns m hn, fun i x v e1 e2 e3 => ?_⟩
    obtain ⟨u, r, l⟩ := hl i x v e1 e2 e3
    refine ⟨u, r, ?_⟩
    rcases l with l | ⟨k, c, e, z⟩
    · exact .inl l
    · exact .inr ⟨k, c, e, cellK x c e _ z⟩
  · obtain ⟨v, z⟩ := I.cell x c e
    exact ⟨v, cellK x c e v z⟩
  · obtain ⟨m, ⟨o, _, _, ho, _⟩, _⟩ := I.loc
    exact free _ o (fun z => (hch _ z).2.1 rfl) ho I.free
  · obtain ⟨v, o, ho, hd⟩ := I.cell x c e
    exact free c o (fun z => (hch c z).2.2.1 x c e rfl) ho (I.freeC x c e)
  · obtain ⟨e, n, ne, nf, d⟩ := I.pin p hp
    have nch : p.1 ∉ ch := fun z => (hch p.1 z).2.2.2 p hp rfl
    exact ⟨keep p.1 p.2 ne nf nch e n, free p.1 p.2 nch e n, ne, nf, d⟩
/-- .. where the frame's own object is kept too -/
theorem Inv.un {t' : Nat} (I : Inv X pins σ H s) (u : Un X.fs [] H H' s.heap h') (hok : HOk X.prog X.w H' h') : Inv X pins σ H' { s with heap := h', toks := t' } := by
  obtain ⟨m, ⟨o, es, ep, ho, r⟩, _⟩ := id I.loc
  obtain ⟨sl, hL⟩ := u.any ho I.free (by simp)
  exact I.step (g' := s.gens) (d' := s.drawn) (ch := []) (fun _ z => nomatch z) (fun b o _ hb _ e n => u.keep b o e n hb (by simp)) (fun b o _ hb _ e n => u.slot b o e n hb (by simp)) (fun b o _ e n => u.free b o e n (by simp)) (fun b o _ e => u.there b o e (by simp)) u.tups u.frzs u.tbls (fun m' hm => by
    obtain ⟨o', es', ep', ho', r'⟩ := hm
    rw [ho] at ho'; cases ho'
    exact ⟨_, es', ep', hL, r'⟩) hok I.bare
/-- behind a call (or a comprehension's block): the slots of this frame may have changed too, the records at ch may have turned -/
theorem Inv.call {g' : Array GenState} {t' : Nat} {d' : Drawn} {ch : List Addr} (I : Inv X pins σ H s) (u : Un (frs X.stack) ch H H' s.heap h') (hok : HOk X.prog X.w H' h') (hg : AllBare g')
    (hch : ∀ b ∈ ch, (b ∈ X.ex ∨ X.s₀.heap.objs.size ≤ b) ∧ b ≠ X.env.locals ∧ (∀ x c, X.env.cells.lookup x = some c → c ≠ b) ∧ ∀ p ∈ X.pn ++ pins, p.1 ≠ b) :
    Inv X pins σ H' { s with heap := h', gens := g', drawn := d', toks := t' } := by
  obtain ⟨m, ⟨o, es, ep, ho, r⟩, _⟩ := id I.loc
  obtain ⟨sl, hL⟩ := u.any ho I.free fun z => (hch _ z).2.1 rfl
  exact I.step (ch := ch) hch (fun b o hL hb hc e n => u.keep b o e n (fun z => (List.mem_cons.mp (I.stkSub b z)).elim hL hb) hc) (fun b o _ _ hc e n => u.any e n hc) (fun b o hc e n => u.free b o e n hc) (fun b o hc e => u.there b o e hc) u.tups u.frzs u.tbls (fun m' hm => by
    obtain ⟨o', es', ep', ho', r'⟩ := hm
    rw [ho] at ho'; cases ho'
    exact ⟨_, es', ep', hL, r'⟩) hok hg
/-- an untracked record of ours (an iterator) has turned -/
theorem Inv.turned {t' : Nat} {it : Addr} (I : Inv X pins σ H s) (k : ∀ b o, b ≠ it → s.heap.get? b = some o → h'.get? b = some o) (hn : H it = none) (hL : it ≠ X.env.locals)
    (h1 : it ∈ X.ex ∨ X.s₀.heap.objs.size ≤ it) (h2 : ∀ x c, X.env.cells.lookup x = some c → c ≠ it) (h3 : ∀ p ∈ X.pn ++ pins, p.1 ≠ it) : Inv X pins σ H { s with heap := h', toks := t' } := by
  have nit : ∀ b u, H b = some u → b ≠ it := fun b u e z => by rw [z, hn] at e; cases e
  refine I.step (g' := s.gens) (d' := s.drawn) (ch := [it]) (fun b hb => ?_) (fun b o _ _ hc e _ => k b o (fun z => hc (by simp [z])) e) (fun b o _ _ hc e _ => ⟨o.slots, k b o (fun z => hc (by simp [z])) e⟩) (fun _ _ _ _ n => n)
    (fun b o hc e => ⟨o, k b o (fun z => hc (by simp [z])) e⟩) (fun _ _ e => e) (fun _ _ _ e => e) (fun b ps e => ⟨#[], by rw [e]; simp⟩) (fun m hm => ?_) (fun b u e => ?_) I.bare
  · have e : b = it := by simpa using hb
    subst e
    exact ⟨h1, hL, h2, h3⟩
  · obtain ⟨o, es, ep, ho, r⟩ := hm
    exact ⟨o, es, ep, k _ o (Ne.symm hL) ho, r⟩
  · refine (I.hok b u e).stay (fun c v hc q => k c v ?_ q) (fun _ q => q) fun _ _ q => q
    rcases hc with z | z
    · rw [z]; exact nit b u e
    · exact nit c _ z
theorem Inv.tok (I : Inv X pins σ H s) (t : Nat) : Inv X pins σ H { s with toks := t } := I.un (h' := s.heap) (t' := t) Un.refl I.hok
/-- all objects kept -/
theorem Inv.kept {t' : Nat} (I : Inv X pins σ H s) (k : ∀ b u, s.heap.get? b = some u → h'.get? b = some u) : Inv X pins σ H { s with heap := h', toks := t' } := I.un (Un.kept k) (I.hok.kept k)
/-- a new object laid and tracked -/
theorem Inv.laid {a : Addr} {o : HO} {t' : Nat} (I : Inv X pins σ H s) (k : ∀ b u, s.heap.get? b = some u → h'.get? b = some u) (hp : s.heap.objs.size ≤ a) (new : ObjOk X.prog X.w (upd H a o) h' a o) :
    Inv X pins σ (upd H a o) { s with heap := h', toks := t' } := I.un (Un.laid k hp (I.hok.fresh hp)) (I.hok.laid k hp new)
/-- an object written -/
theorem Inv.write {x e : Addr} {o : HO} {t' : Nat} (I : Inv X pins σ H s) (mu : Mut (H x)) (he : e = x ∨ H e = some (.own x)) (k : ∀ b u, b ≠ e → s.heap.get? b = some u → h'.get? b = some u) (heo : ∃ u, h'.get? e = some u)
    (new : ObjOk X.prog X.w (upd H x o) h' x o) : Inv X pins σ (upd H x o) { s with heap := h', toks := t' } := I.un (Un.write mu he k heo) (I.hok.write mu he k heo new)
/-- forgetting slots, pins -/
theorem Inv.weak {σ' : List (Option V)} (I : Inv X pins σ H s) (hl : σ'.length = σ.length) (w : ∀ (i : Nat) v, σ'[i]? = some (some v) → σ[i]? = some (some v)) : Inv X pins σ' H s :=
  ⟨I.ok, I.os, I.bare, I.base, let ⟨m, hn, hl'⟩ := I.loc; ⟨m, hn, fun i x v e1 e2 e3 => hl' i x v e1 (w i v e2) e3⟩, I.cell, I.free, I.freeC, I.pin, I.hok, hl.trans I.len⟩
theorem Inv.pins_of {pins' : List (Addr × Obj)} (I : Inv X pins σ H s) (h : ∀ p ∈ pins', s.heap.get? p.1 = some p.2 ∧ H p.1 = none ∧ p.1 ≠ X.env.locals ∧ p.1 ∉ X.fs ∧ ∀ v, p.2.data ≠ .cell v) : Inv X pins' σ H s :=
  ⟨I.ok, I.os, I.bare, I.base, I.loc, I.cell, I.free, I.freeC, fun p hp => (List.mem_append.mp hp).elim (fun z => I.pin p (List.mem_append_left _ z)) (h p), I.hok, I.len⟩

theorem nodup_ix {N : List Str} (hN : N.Nodup) {i j : Nat} {x : Str} (a : N[i]? = some x) (b : N[j]? = some x) : i = j := by
  obtain ⟨h1, e1⟩ := List.getElem?_eq_some_iff.mp a
  obtain ⟨h2, e2⟩ := List.getElem?_eq_some_iff.mp b
  exact (List.getElem_inj hN).mp (e1.trans e2.symm)

/-- a name is stored; what changed -/
theorem store_ok2 {M : Model} {A : Around} {E : Value → Shared → Prop} {i : Nat} {x : Str} {v : V} {u : Value} {Q : Unit → Shared → Prop} (I : Inv X pins σ H s) (hN : X.N.Nodup) (hi : X.N[i]? = some x) (hx : Loc X.env.scope x) (r : RelV v u)
    (h : ∀ s', Inv X pins (σ.set i (some v)) H s' → (∃ a, Heap.SameBut a s.heap s'.heap ∧ (a = X.env.locals ∨ X.env.cells.lookup x = some a)) → Q () s') (hf : X.fn x = true ∨ X.env.scope.names.lookup x = some .local := by first | exact .inl rfl | exact .inr rfl | assumption) : wpAny M A (storeName X.env x u) Q E s := by
  obtain ⟨m, hn, hl⟩ := id I.loc
  have hcls : (X.env.scope.kind == .class || (X.env.scope.kind == .module && X.env.locals != X.env.globals)) = false := by rw [I.ok.kind]; rfl
  have hiσ : i < σ.length := by rw [I.len]; exact (List.getElem?_eq_some_iff.mp hi).1
  have cne := I.cne
  have tracked : ∀ {a : Addr} {h' : Heap}, (∃ o, s.heap.get? a = some o ∧ H a = none) → Heap.SameBut a s.heap h' → HOk X.prog X.w H h' := fun {a h'} ha hs b ob e => by
    obtain ⟨_, _, hfree⟩ := ha
    refine (I.hok b ob e).stay (fun c w' hc q => (hs.2 c ?_).trans q) (fun _ q => q) fun _ _ q => q
    rintro rfl
    rcases hc with rfl | hc
    · rw [hfree] at e; cases e
    · rw [hfree] at hc; cases hc
  rcases hx with hk | hk
  · refine wpAny_storeName_local hk hn (fun h' hn' hs => ?_) hcls
    obtain ⟨oL, _, _, hoL, _⟩ := id hn
    refine h _ ⟨I.ok, I.os, I.bare, ⟨fun b o e n hb hx => ?_, fun b o e n hb hx => ?_, I.base.free, fun b o e hx => ?_, I.base.tups, I.base.frzs, I.base.tbls⟩, ⟨_, hn', fun j y v' e1 e2 e3 => ?_⟩, fun y c e => ?_, I.free, I.freeC, fun p hp => ?_, tracked ⟨oL, hoL, I.free⟩ hs, by simpa using I.len⟩ ⟨_, hs, .inl rfl⟩
    · exact (hs.2 b (Nat.ne_of_lt (Nat.lt_of_lt_of_le (Heap.lt_size e) I.ok.above))).trans (I.base.keep b o e n hb hx)
    · obtain ⟨sl, e1⟩ := I.base.slot b o e n hb hx
      exact ⟨sl, (hs.2 b (Nat.ne_of_lt (Nat.lt_of_lt_of_le (Heap.lt_size e) I.ok.above))).trans e1⟩
    · obtain ⟨o', e1⟩ := I.base.there b o e hx
      exact ⟨o', (hs.2 b (Nat.ne_of_lt (Nat.lt_of_lt_of_le (Heap.lt_size e) I.ok.above))).trans e1⟩
    · by_cases hj : j = i
      · subst hj
        rw [hi] at e1; cases e1
        rw [List.getElem?_set_self hiσ] at e2
        cases e2
        exact ⟨u, r, .inl ⟨hk, by simp⟩⟩
      · rw [List.getElem?_set_ne (Ne.symm hj)] at e2
        obtain ⟨u', r', q⟩ := hl j y v' e1 e2 e3
        refine ⟨u', r', ?_⟩
        rcases q with ⟨k, e⟩ | ⟨k, c, e, z⟩
        · refine .inl ⟨k, ?_⟩
          have : y ≠ x := fun e => hj (nodup_ix hN e1 (e ▸ hi))
          simp [this, e]
        · exact .inr ⟨k, c, e, z.sameBut hs (cne y c e)⟩
    · obtain ⟨w', z⟩ := I.cell y c e
      exact ⟨w', z.sameBut hs (cne y c e)⟩
    · obtain ⟨e, n, ne, nf, d⟩ := I.pin p hp
      exact ⟨(hs.2 p.1 ne).trans e, n, ne, nf, d⟩
  · have hfn : X.fn x = true := by
      rcases hf with z | z
      · exact z
      · rw [z] at hk; cases hk
    obtain ⟨c, hc⟩ := I.ok.has x (.inl hk)
    obtain ⟨w', z⟩ := I.cell x c hc
    refine wpAny_storeName_cell I.ok.kind hk hc z (fun h' hc' hs => ?_)
    obtain ⟨oc, hoc, hocd⟩ := id z
    refine h { s with heap := h' } ⟨I.ok, I.os, I.bare, ⟨fun b o e n hb hx => ?_, fun b o e n hb hx => ?_, I.base.free, fun b o e hx => ?_, I.base.tups, I.base.frzs, I.base.tbls⟩, ⟨m, hn.sameBut hs (Ne.symm (cne x c hc)), fun j y v' e1 e2 e3 => ?_⟩, fun y c' e => ?_, I.free, I.freeC, fun p hp => ?_, tracked ⟨oc, hoc, I.freeC x c hc⟩ hs, by simpa using I.len⟩ ⟨c, hs, .inr hc⟩
    · exact (hs.2 b (Nat.ne_of_lt (Nat.lt_of_lt_of_le (Heap.lt_size e) (I.ok.cab x c hfn hc)))).trans (I.base.keep b o e n hb hx)
    · obtain ⟨sl, e1⟩ := I.base.slot b o e n hb hx
      exact ⟨sl, (hs.2 b (Nat.ne_of_lt (Nat.lt_of_lt_of_le (Heap.lt_size e) (I.ok.cab x c hfn hc)))).trans e1⟩
    · obtain ⟨o', e1⟩ := I.base.there b o e hx
      exact ⟨o', (hs.2 b (Nat.ne_of_lt (Nat.lt_of_lt_of_le (Heap.lt_size e) (I.ok.cab x c hfn hc)))).trans e1⟩
    · by_cases hj : j = i
      · subst hj
        rw [hi] at e1; cases e1
        rw [List.getElem?_set_self hiσ] at e2
        cases e2
        exact ⟨u, r, .inr ⟨.inl hk, c, hc, hc'⟩⟩
      · rw [List.getElem?_set_ne (Ne.symm hj)] at e2
        obtain ⟨u', r', q⟩ := hl j y v' e1 e2 e3
        refine ⟨u', r', ?_⟩
        rcases q with q | ⟨k, c', e, z'⟩
        · exact .inl q
        · refine .inr ⟨k, c', e, z'.sameBut hs ?_⟩
          rintro rfl
          exact hj (nodup_ix hN e1 (I.ok.inj _ _ _ e hc ▸ hi))
    · by_cases hcc : c' = c
      · subst hcc; exact ⟨_, hc'⟩
      · obtain ⟨w2, z2⟩ := I.cell y c' e
        exact ⟨w2, z2.sameBut hs hcc⟩
    · obtain ⟨e, n, ne, nf, d⟩ := I.pin p hp
      refine ⟨(hs.2 p.1 ?_).trans e, n, ne, nf, d⟩
      intro q
      rw [q, hoc] at e
      have q' : oc = p.2 := Option.some.inj e
      exact d w' (by rw [← q']; exact hocd)
theorem store_ok {M : Model} {A : Around} {E : Value → Shared → Prop} {i : Nat} {x : Str} {v : V} {u : Value} {Q : Unit → Shared → Prop} (I : Inv X pins σ H s) (hN : X.N.Nodup) (hi : X.N[i]? = some x) (hx : Loc X.env.scope x) (r : RelV v u)
    (h : ∀ s', Inv X pins (σ.set i (some v)) H s' → Q () s') (hf : X.fn x = true ∨ X.env.scope.names.lookup x = some .local := by first | exact .inl rfl | exact .inr rfl | assumption) : wpAny M A (storeName X.env x u) Q E s :=
  store_ok2 I hN hi hx r (fun s' I' _ => h s' I') hf
/-- behind a call or a block, the state as it is -/
theorem Inv.call' {s' : Shared} {ch : List Addr} (I : Inv X pins σ H s) (ho : s'.os = s.os) (u : Un (frs X.stack) ch H H' s.heap s'.heap) (hok : HOk X.prog X.w H' s'.heap) (hg : AllBare s'.gens)
    (hch : ∀ b ∈ ch, (b ∈ X.ex ∨ X.s₀.heap.objs.size ≤ b) ∧ b ≠ X.env.locals ∧ (∀ x c, X.env.cells.lookup x = some c → c ≠ b) ∧ ∀ p ∈ X.pn ++ pins, p.1 ≠ b) : Inv X pins σ H' s' := by
  obtain ⟨h', g', d', t', o'⟩ := s'
  have e : o' = s.os := ho
  subst e
  exact I.call (g' := g') (t' := t') (d' := d') u hok hg hch
end

/-! ### the judgements -/
/-- an exception: its class, its own dict's address (where it has one), the abstract heap behind it -/
abbrev XK := Value → Option Addr → Hp → Prop
abbrev St := List (Option V)
abbrev VK := V → Hp → Prop
/-- an expression's reading; a test's; an argument list's -/
abbrev TE := St → Hp → VK → Prop
abbrev TT := St → Hp → (Bool → Hp → Prop) → Prop
abbrev TA := St → Hp → (List V → Hp → Prop) → Prop
/-- what is wanted behind a statement -/
structure Ends where
  nx : St → Hp → Prop
  rt : VK
  bk : St → Hp → Prop := fun _ _ => False
  ct : St → Hp → Prop := fun _ _ => False
abbrev TS := Ends → St → Hp → Prop

def EP (X : Cx) (pins : List (Addr × Obj)) (σ : St) (Q : VK) (u : Value) (s' : Shared) : Prop := ∃ v H', Inv X pins σ H' s' ∧ RelV v u ∧ Q v H'
def TP (X : Cx) (pins : List (Addr × Obj)) (σ : St) (Q : Bool → Hp → Prop) (b : Bool) (s' : Shared) : Prop := ∃ H', Inv X pins σ H' s' ∧ Q b H'
def AP (X : Cx) (pins : List (Addr × Obj)) (σ : St) (Q : List V → Hp → Prop) (us : List Value) (s' : Shared) : Prop := ∃ vs H', Inv X pins σ H' s' ∧ Vals vs us ∧ Q vs H'
def SP (X : Cx) (pins : List (Addr × Obj)) (D : Ends) (f : Flow) (s' : Shared) : Prop :=
  match f with
  | .next => ∃ σ' H', Inv X pins σ' H' s' ∧ D.nx σ' H'
  | .brk => ∃ σ' H', Inv X pins σ' H' s' ∧ D.bk σ' H'
  | .cont => ∃ σ' H', Inv X pins σ' H' s' ∧ D.ct σ' H'
  | .ret u => ∃ v σ' H', Inv X pins σ' H' s' ∧ RelV v u ∧ D.rt v H'

def PE (X : Cx) (e : Expr) (t : TE) : Prop :=
  ∀ (pins : List (Addr × Obj)) (s : Shared) (σ : St) (H : Hp) (Q : VK), Inv X pins σ H s → t σ H Q → wpAny (model X.prog X.w) X.A (eval e X.env) (EP X pins σ Q) X.xe s
def PT (X : Cx) (e : Expr) (t : TT) : Prop :=
  ∀ (pins : List (Addr × Obj)) (s : Shared) (σ : St) (H : Hp) (Q : Bool → Hp → Prop), Inv X pins σ H s → t σ H Q → wpAny (model X.prog X.w) X.A (isTrue e X.env (eval e X.env)) (TP X pins σ Q) X.xe s
/-- a test whatever its 'whole' is (and, or) -/
def PW (X : Cx) (e : Expr) (t : TT) : Prop :=
  ∀ (whole : Sem Value) (pins : List (Addr × Obj)) (s : Shared) (σ : St) (H : Hp) (Q : Bool → Hp → Prop), Inv X pins σ H s → t σ H Q → wpAny (model X.prog X.w) X.A (isTrue e X.env whole) (TP X pins σ Q) X.xe s
theorem PW.pt {X : Cx} {e : Expr} {t : TT} (h : PW X e t) : PT X e t := h _
/-- an argument list (no star), from the left -/
def PA (X : Cx) (es : List Expr) (t : TA) : Prop :=
  ∀ (pos : Pos) (pins : List (Addr × Obj)) (s : Shared) (σ : St) (H : Hp) (Q : List V → Hp → Prop), Inv X pins σ H s → t σ H Q → wpAny (model X.prog X.w) X.A (spliced (backTo pos (starEach es X.env))) (AP X pins σ Q) X.xe s
def PS (X : Cx) (st : Stmt) (t : TS) : Prop :=
  ∀ (pins : List (Addr × Obj)) (s : Shared) (σ : St) (H : Hp) (D : Ends), Inv X pins σ H s → t D σ H → wpAny (model X.prog X.w) X.A (exec st X.env) (SP X pins D) X.xe s
def PSs (X : Cx) (st : List Stmt) (t : TS) : Prop :=
  ∀ (pins : List (Addr × Obj)) (s : Shared) (σ : St) (H : Hp) (D : Ends), Inv X pins σ H s → t D σ H → wpAny (model X.prog X.w) X.A (execs st X.env) (SP X pins D) X.xe s
/-- weaken the end -/
theorem thn {α : Type} {t : Sem α} {Q Q' : α → Shared → Prop} {M : Model} {A : Around} {E : Value → Shared → Prop} {s : Shared} (h : wpAny M A t Q E s) (hQ : ∀ a s, Q a s → Q' a s) : wpAny M A t Q' E s := wpAny_mono h hQ fun _ _ x => x
end L2

namespace L2
open PySem PySem.Spec PyProof.Rows
section
variable {X : Cx}

/-- two expressions in a row -/
theorem bin {a b : Expr} {ta tb : TE} (ha : PE X a ta) (hb : PE X b tb) {pins : List (Addr × Obj)} {s : Shared} {σ : St} {H : Hp} {R : V → V → Hp → Prop} (I : Inv X pins σ H s) (h : ta σ H fun x H1 => tb σ H1 fun y H2 => R x y H2)
    {α : Type} {Q : α → Shared → Prop} {f : Value → Value → Sem α}
    (hf : ∀ v u s2 x y H2, Inv X pins σ H2 s2 → RelV x v → RelV y u → R x y H2 → wpAny (model X.prog X.w) X.A (f v u) Q X.xe s2) :
    wpAny (model X.prog X.w) X.A (eval a X.env) (fun v s₁ => wpAny (model X.prog X.w) X.A (eval b X.env) (fun u s₂ => wpAny (model X.prog X.w) X.A (f v u) Q X.xe s₂) X.xe s₁) X.xe s := by
  refine thn (ha pins s σ H _ I h) fun v s1 ⟨x, H1, I1, r1, q1⟩ => ?_
  refine thn (hb pins s1 σ H1 _ I1 q1) fun u s2 ⟨y, H2, I2, r2, q2⟩ => ?_
  exact hf v u s2 x y H2 I2 r1 r2 q2

/-! ### names and constants -/
def tVar (i : Nat) : TE := fun σ H Q => ∃ v, σ[i]? = some (some v) ∧ Q v H
def tC (v : V) : TE := fun _ H Q => Q v H
theorem pe_var {i : Nat} {x : Str} {pos : Pos} (hN : X.N[i]? = some x) (hv : Vis X.env.scope x) (hd : (x == ("__debug__" : Str)) = false := by decide) (hcd : (x == ("__classdict__" : Str)) = false := by decide) : PE X (.Name x pos) (tVar i) := by
  intro pins s σ H Q I h
  obtain ⟨v, e, h⟩ := h
  obtain ⟨m, hn, hl⟩ := I.loc
  obtain ⟨u, r, l⟩ := hl i x v hN e hv
  have fin : EP X pins σ Q u s := ⟨v, H, I, r, h⟩
  rcases l with ⟨hk, hm⟩ | ⟨hk, c, hc, hcell⟩
  · exact wpAny_Name (wpAny_loadName_local I.ok.kind hk hn hm fin) hd
  · rcases hk with hk | hk
    · exact wpAny_Name (wpAny_loadName_cell I.ok.kind hk hc hcell fin) hd
    · exact wpAny_Name (wpAny_loadName_free I.ok.kind hk hc hcell fin hcd) hd
theorem pe_int {i j pos} : PE X (.Constant (.int i) j pos) (tC (.int i)) := fun _ _ _ H _ I h => wpAny_Constant_int ⟨.int i, H, I.tok _, ⟨_, rfl⟩, h⟩
theorem pe_bl {b j pos} : PE X (.Constant (.bool b) j pos) (tC (.bl b)) := fun _ _ _ H _ I h => Constant_bool ⟨.bl b, H, I, rfl, h⟩
theorem pe_non {j pos} : PE X (.Constant .none j pos) (tC .non) := fun _ _ _ H _ I h => Constant_none ⟨.non, H, I, rfl, h⟩
theorem pe_str {x j pos} : PE X (.Constant (.str x) j pos) (tC (.str x)) := fun _ _ _ H _ I h => Calls.Constant_str ⟨.str x, H, I.tok _, ⟨_, rfl⟩, h⟩

/-- a global name of the def -/
def Gl (X : Cx) (x : Str) : Prop := X.env.kindOf x = some .globalImplicit
theorem ld_glob {E : Value → Shared → Prop} {pins : List (Addr × Obj)} {s : Shared} {σ : St} {H : Hp} {x : Str} {u : Value} {pos : Pos} {Q : Value → Shared → Prop} (I : Inv X pins σ H s) (hg : Gl X x) (hm : X.mg x = some u) (h : Q u s)
    (hd : (x == ("__debug__" : Str)) = false := by decide) : wpAny (model X.prog X.w) X.A (eval (.Name x pos) X.env) Q E s :=
  Calls.Name_function_global I.ok.kind hg (Calls.loadGlobal_global (by rw [I.ok.glob]; exact I.mod.glob.keeps I.bk) hm h) hd
theorem ld_blt {E : Value → Shared → Prop} {pins : List (Addr × Obj)} {s : Shared} {σ : St} {H : Hp} {x : Str} {u : Value} {pos : Pos} {Q : Value → Shared → Prop} (I : Inv X pins σ H s) (hg : Gl X x) (hm : X.mg x = none) (hv : bootBuiltins x = some u) (h : Q u s)
    (hn : x ≠ "__name__" := by decide) (hd : (x == ("__debug__" : Str)) = false := by decide) : wpAny (model X.prog X.w) X.A (eval (.Name x pos) X.env) Q E s := by
  obtain ⟨mb, h1, h2⟩ := I.mod.blt
  exact Calls.Name_function_global I.ok.kind hg (Calls.loadGlobal_builtin (by rw [I.ok.glob]; exact I.mod.glob.keeps I.bk) hm (by rw [I.ok.blt]; exact h1.keeps I.bk) ((h2 x hn).trans hv) h) hd
/-- a module's constant, a class, a function, as a value -/
theorem pe_glob {x : Str} {v : V} {u : Value} {pos : Pos} (hg : Gl X x) (hm : X.mg x = some u) (r : RelV v u) (hd : (x == ("__debug__" : Str)) = false := by decide) : PE X (.Name x pos) (tC v) :=
  fun _ _ _ H _ I h => ld_glob I hg hm ⟨v, H, I, r, h⟩ hd
theorem pe_bltn {x : Str} {v : V} {u : Value} {pos : Pos} (hg : Gl X x) (hm : X.mg x = none) (hv : bootBuiltins x = some u) (r : RelV v u) (hn : x ≠ "__name__" := by decide) (hd : (x == ("__debug__" : Str)) = false := by decide) : PE X (.Name x pos) (tC v) :=
  fun _ _ _ H _ I h => ld_blt I hg hm hv ⟨v, H, I, r, h⟩ hn hd

/-! ### arithmetic -/
/-- two ints -/
def t2I (ta tb : TE) (k : Int → Int → Hp → Prop) : St → Hp → Prop := fun σ H => ta σ H fun x H1 => tb σ H1 fun y H2 => ∃ i j, x = .int i ∧ y = .int j ∧ k i j H2
def tAdd (ta tb : TE) : TE := fun σ H Q => t2I ta tb (fun i j H2 => Q (.int (i + j)) H2) σ H
def tSub (ta tb : TE) : TE := fun σ H Q => t2I ta tb (fun i j H2 => Q (.int (i - j)) H2) σ H
/-- the left factor below 2^64 -/
def tMul (ta tb : TE) : TE := fun σ H Q => t2I ta tb (fun i j H2 => (-(2 ^ 64) < i ∧ i < 2 ^ 64) ∧ Q (.int (i * j)) H2) σ H
variable {a b : Expr} {ta tb : TE} {pos : Pos}
theorem pe_add (ha : PE X a ta) (hb : PE X b tb) : PE X (.BinOp a .Add b pos) (tAdd ta tb) := by
  intro pins s σ H Q I h
  refine wpAny_BinOp (bin ha hb I h fun v u s2 x y H2 I2 rx ry q => ?_)
  obtain ⟨i, j, rfl, rfl, q⟩ := q
  obtain ⟨t, rfl⟩ := rx
  obtain ⟨t', rfl⟩ := ry
  exact add_int ⟨.int _, H2, I2.tok _, ⟨_, rfl⟩, q⟩
theorem pe_sub (ha : PE X a ta) (hb : PE X b tb) : PE X (.BinOp a .Sub b pos) (tSub ta tb) := by
  intro pins s σ H Q I h
  refine wpAny_BinOp (bin ha hb I h fun v u s2 x y H2 I2 rx ry q => ?_)
  obtain ⟨i, j, rfl, rfl, q⟩ := q
  obtain ⟨t, rfl⟩ := rx
  obtain ⟨t', rfl⟩ := ry
  exact sub_int ⟨.int _, H2, I2.tok _, ⟨_, rfl⟩, q⟩
theorem pe_mul (ha : PE X a ta) (hb : PE X b tb) : PE X (.BinOp a .Mult b pos) (tMul ta tb) := by
  intro pins s σ H Q I h
  refine wpAny_BinOp (bin ha hb I h fun v u s2 x y H2 I2 rx ry q => ?_)
  obtain ⟨i, j, rfl, rfl, ⟨q1, q2⟩, q⟩ := q
  obtain ⟨t, rfl⟩ := rx
  obtain ⟨t', rfl⟩ := ry
  exact mul_int ⟨.int _, H2, I2.tok _, ⟨_, rfl⟩, q⟩ (.of_left (intBits_le_64 q1 q2))

/-! ### comparisons -/
def PC (X : Cx) (op : CmpOp) (a b : Expr) (t : TE) : Prop :=
  ∀ (pins : List (Addr × Obj)) (s : Shared) (σ : St) (H : Hp) (Q : VK), Inv X pins σ H s → t σ H Q →
    wpAny (model X.prog X.w) X.A (eval a X.env) (fun v s₁ => wpAny (model X.prog X.w) X.A (eval b X.env) (fun u s₂ => wpAny (model X.prog X.w) X.A (compareOp op v u) (EP X pins σ Q) X.xe s₂) X.xe s₁) X.xe s
theorem nobehind (b : Expr) {op : CmpOp} (h : op ≠ .In) (h2 : op ≠ .NotIn) : behindInMarks op b = false := by
  have e1 : (op == CmpOp.In) = false := by cases op <;> first | rfl | exact absurd rfl h
  have e2 : (op == CmpOp.NotIn) = false := by cases op <;> first | rfl | exact absurd rfl h2
  cases b <;> simp [behindInMarks, e1, e2]
def tCmp (p : Int → Int → Bool) (ta tb : TE) : TE := fun σ H Q => t2I ta tb (fun i j H2 => Q (.bl (p i j)) H2) σ H
abbrev tLt : TE → TE → TE := tCmp fun i j => decide (i < j)
abbrev tLe : TE → TE → TE := tCmp fun i j => decide (i ≤ j)
abbrev tGt : TE → TE → TE := tCmp fun i j => decide (j < i)
abbrev tGe : TE → TE → TE := tCmp fun i j => decide (j ≤ i)
abbrev tEqI : TE → TE → TE := tCmp fun i j => decide (i = j)
abbrev tNeI : TE → TE → TE := tCmp fun i j => !decide (i = j)
/-- a comparison of two ints, by its rule -/
theorem pc_int {op : CmpOp} {p : Int → Int → Bool} (ha : PE X a ta) (hb : PE X b tb)
    (rule : ∀ (i j : Int) (t u : Tok) (Q : Value → Shared → Prop) (s : Shared), Q (.bool (p i j)) s → wpAny (model X.prog X.w) X.A (compareOp op (.int i t) (.int j u)) Q X.xe s) : PC X op a b (tCmp p ta tb) := by
  intro pins s σ H Q I h
  refine bin ha hb I h fun v u s2 x y H2 I2 rx ry q => ?_
  obtain ⟨i, j, rfl, rfl, q⟩ := q
  obtain ⟨t, rfl⟩ := rx
  obtain ⟨t', rfl⟩ := ry
  exact rule i j t t' _ s2 ⟨.bl _, H2, I2, rfl, q⟩
theorem pc_lt (ha : PE X a ta) (hb : PE X b tb) : PC X .Lt a b (tLt ta tb) := pc_int ha hb fun _ _ _ _ _ _ h => lt_int h
theorem pc_le (ha : PE X a ta) (hb : PE X b tb) : PC X .LtE a b (tLe ta tb) := pc_int ha hb fun _ _ _ _ _ _ h => le_int h
theorem pc_gt (ha : PE X a ta) (hb : PE X b tb) : PC X .Gt a b (tGt ta tb) := pc_int ha hb fun _ _ _ _ _ _ h => gt_int h
theorem pc_ge (ha : PE X a ta) (hb : PE X b tb) : PC X .GtE a b (tGe ta tb) := pc_int ha hb fun _ _ _ _ _ _ h => ge_int h
theorem pc_eqI (ha : PE X a ta) (hb : PE X b tb) : PC X .Eq a b (tEqI ta tb) := pc_int ha hb fun _ _ _ _ _ _ h => eq_int (by rw [Bool.beq_eq_decide_eq]; exact h)
theorem pc_neI (ha : PE X a ta) (hb : PE X b tb) : PC X .NotEq a b (tNeI ta tb) := pc_int ha hb fun _ _ _ _ _ _ h => ne_int (by rw [bne, Bool.beq_eq_decide_eq]; exact h)
/-- is None -/
def tIsN (ta : TE) : TE := fun σ H Q => ta σ H fun x H1 => Q (.bl (decide (x = .non))) H1
def tNotN (ta : TE) : TE := fun σ H Q => ta σ H fun x H1 => Q (.bl (!decide (x = .non))) H1
theorem RelV.none_iff {x : V} {v : Value} (r : RelV x v) : (v == Value.none) = decide (x = .non) := by
  cases x with
  | non => cases r; rfl
  | bl _ => cases r; rfl
  | int _ => obtain ⟨t, rfl⟩ := r; rfl
  | str _ => obtain ⟨t, rfl⟩ := r; rfl
  | byt _ => obtain ⟨t, rfl⟩ := r; rfl
  | flt _ => obtain ⟨t, rfl⟩ := r; rfl
  | ref _ => cases r; rfl
  | ty _ => cases r; rfl
theorem pc_isN {j pos'} (ha : PE X a ta) : PC X .Is a (.Constant .none j pos') (tIsN ta) := by
  intro pins s σ H Q I h
  refine thn (ha pins s σ H _ I h) fun v s1 ⟨x, H1, I1, r1, q1⟩ => ?_
  exact Constant_none (is_none_gen ⟨.bl _, H1, I1, by rw [r1.none_iff]; rfl, q1⟩)
theorem pc_notN {j pos'} (ha : PE X a ta) : PC X .IsNot a (.Constant .none j pos') (tNotN ta) := by
  intro pins s σ H Q I h
  refine thn (ha pins s σ H _ I h) fun v s1 ⟨x, H1, I1, r1, q1⟩ => ?_
  exact Constant_none (isnot_none_gen ⟨.bl _, H1, I1, by rw [r1.none_iff]; rfl, q1⟩)
/-- a comparison as a value, as a test -/
def tB (t : TE) : TT := fun σ H Q => t σ H fun x H1 => ∃ c, x = .bl c ∧ Q c H1
theorem pe_cmp {op : CmpOp} {t : TE} (h : PC X op a b t) (h1 : behindInMarks op b = false := by first | exact nobehind _ (by decide) (by decide) | rfl) : PE X (.Compare a [op] [b] pos) t := fun pins s σ H Q I hw => wpAny_Compare1 (h pins s σ H Q I hw) h1
theorem pt_cmp {op : CmpOp} {t : TE} (h : PC X op a b t) (h1 : behindInMarks op b = false := by first | exact nobehind _ (by decide) (by decide) | rfl) : PT X (.Compare a [op] [b] pos) (tB t) := by
  intro pins s σ H Q I hw
  refine wpAny_isTrue_Compare1 (thn (h pins s σ H _ I hw) fun v s1 h1 => thn h1 fun u s2 h2 => thn h2 fun c s3 ⟨x, H1, I1, r1, q1⟩ => ?_) h1
  obtain ⟨d, rfl, q⟩ := q1
  cases r1
  exact wpAny_truthy_bool ⟨H1, I1, q⟩
/-- an expression whose value is a bool, as a test -/
theorem pt_val {e : Expr} {t : TE} (h : PE X e t) (he : ∀ whole, isTrue e X.env whole = (do let v ← whole; standAt e.pos; holding [v] (truthy v)) := by intro _; rfl) : PT X e (tB t) := by
  intro pins s σ H Q I hw
  refine isTrue_plain (thn (h pins s σ H _ I hw) fun v s1 ⟨x, H1, I1, r1, q1⟩ => ?_) (he _)
  obtain ⟨d, rfl, q⟩ := q1
  cases r1
  exact wpAny_truthy_bool ⟨H1, I1, q⟩

/-! ### and, or, not -/
variable {tA tB' : TT} {rest : List Expr}
def tAnd (t u : TT) : TT := fun σ H Q => t σ H fun c H1 => if c = true then u σ H1 Q else Q false H1
def tOr (t u : TT) : TT := fun σ H Q => t σ H fun c H1 => if c = true then Q true H1 else u σ H1 Q
def tNot (t : TT) : TT := fun σ H Q => t σ H fun c H1 => Q (!c) H1
theorem pw_and1 (ha : PT X a tA) : PW X (.BoolOp .And [a] pos) tA := by
  intro wh pins s σ H Q I h
  refine isTrue_and (thn (ha pins s σ H Q I h) fun c s1 e => ?_)
  cases c with
  | true => exact isTrue_and_nil e
  | false => exact e
theorem pw_or1 (ha : PT X a tA) : PW X (.BoolOp .Or [a] pos) tA := by
  intro wh pins s σ H Q I h
  refine isTrue_or (thn (ha pins s σ H Q I h) fun c s1 e => ?_)
  cases c with
  | false => exact isTrue_or_nil e
  | true => exact e
theorem pw_and (ha : PT X a tA) (hb : PW X (.BoolOp .And (b :: rest) pos) tB') : PW X (.BoolOp .And (a :: b :: rest) pos) (tAnd tA tB') := by
  intro wh pins s σ H Q I h
  refine isTrue_and (thn (ha pins s σ H _ I h) fun c s1 ⟨H1, I1, q1⟩ => ?_)
  cases c with
  | true => exact hb wh pins s1 σ H1 Q I1 q1
  | false => exact ⟨H1, I1, q1⟩
theorem pw_or (ha : PT X a tA) (hb : PW X (.BoolOp .Or (b :: rest) pos) tB') : PW X (.BoolOp .Or (a :: b :: rest) pos) (tOr tA tB') := by
  intro wh pins s σ H Q I h
  refine isTrue_or (thn (ha pins s σ H _ I h) fun c s1 ⟨H1, I1, q1⟩ => ?_)
  cases c with
  | true => exact ⟨H1, I1, q1⟩
  | false => exact hb wh pins s1 σ H1 Q I1 q1
theorem pt_not (ha : PT X a tA) : PT X (.UnaryOp .Not a pos) (tNot tA) := by
  intro pins s σ H Q I h
  exact isTrue_not (ha pins s σ H (fun c H1 => Q (!c) H1) I h)
/-- .. as values (bools) -/
def tAndV (ta tb : TE) : TE := fun σ H Q => ta σ H fun x H1 => ∃ c, x = .bl c ∧ if c = true then tb σ H1 Q else Q (.bl false) H1
def tOrV (ta tb : TE) : TE := fun σ H Q => ta σ H fun x H1 => ∃ c, x = .bl c ∧ if c = true then Q (.bl true) H1 else tb σ H1 Q
def tNotV (ta : TE) : TE := fun σ H Q => ta σ H fun x H1 => ∃ c, x = .bl c ∧ Q (.bl (!c)) H1
theorem pe_one {op} {t : TE} (h : PE X a t) : PE X (.BoolOp op [a] pos) t := fun pins s σ H Q I hw => BoolOp_one (h pins s σ H Q I hw)
theorem pe_and (ha : PE X a ta) (hb : PE X (.BoolOp .And (b :: rest) pos) tb) : PE X (.BoolOp .And (a :: b :: rest) pos) (tAndV ta tb) := by
  intro pins s σ H Q I h
  refine BoolOp_and (thn (ha pins s σ H _ I h) fun v s1 ⟨x, H1, I1, r1, q1⟩ => ?_)
  obtain ⟨c, rfl, q1⟩ := q1
  cases r1
  refine wpAny_truthy_bool ?_
  cases c with
  | true => exact hb pins s1 σ H1 Q I1 q1
  | false => exact ⟨.bl false, H1, I1, rfl, q1⟩
theorem pe_or (ha : PE X a ta) (hb : PE X (.BoolOp .Or (b :: rest) pos) tb) : PE X (.BoolOp .Or (a :: b :: rest) pos) (tOrV ta tb) := by
  intro pins s σ H Q I h
  refine BoolOp_or (thn (ha pins s σ H _ I h) fun v s1 ⟨x, H1, I1, r1, q1⟩ => ?_)
  obtain ⟨c, rfl, q1⟩ := q1
  cases r1
  refine wpAny_truthy_bool ?_
  cases c with
  | false => exact hb pins s1 σ H1 Q I1 q1
  | true => exact ⟨.bl true, H1, I1, rfl, q1⟩
theorem pe_not (ha : PE X a ta) : PE X (.UnaryOp .Not a pos) (tNotV ta) := by
  intro pins s σ H Q I h
  refine UnaryOp_ (thn (ha pins s σ H _ I h) fun v s1 ⟨x, H1, I1, r1, q1⟩ => ?_)
  obtain ⟨c, rfl, q1⟩ := q1
  cases r1
  exact not_of (wpAny_truthy_bool ⟨.bl (!c), H1, I1, rfl, q1⟩)
/-- a if t else b -/
def tIf (t : TT) (ta tb : TE) : TE := fun σ H Q => t σ H fun c H1 => if c = true then ta σ H1 Q else tb σ H1 Q
theorem pe_ifExp {c : Expr} (hc : PT X c tA) (ha : PE X a ta) (hb : PE X b tb) : PE X (.IfExp c a b pos) (tIf tA ta tb) := by
  intro pins s σ H Q I h
  refine wpAny_IfExp (thn (hc pins s σ H _ I h) fun d s1 ⟨H1, I1, q1⟩ => ?_)
  cases d with
  | true => exact ha pins s1 σ H1 Q I1 q1
  | false => exact hb pins s1 σ H1 Q I1 q1
end
end L2

namespace L2
open PySem PySem.Spec PyProof.Rows

/-! ### a list, a tuple that is read: tracked, frozen, or an object of the module -/
def SqL (K : PySem.W.Frag) (H : Hp) (a : Addr) (xs : List V) : Prop :=
  Rd H a (.lst xs) ∨
    ∃ (o : Obj) (its : Array Value) (n : Nat), K.lookup a = some o ∧ o.cls = .type "list" ∧ o.dict = none ∧ o.data = .seq its n ∧ its.size ≤ sizeLine ∧ Vals xs its.toList
def SqT (K : PySem.W.Frag) (H : Hp) (a : Addr) (xs : List V) : Prop :=
  Rd H a (.tup xs) ∨
    ∃ (o : Obj) (its : Array Value) (n : Nat), K.lookup a = some o ∧ o.cls = .type "tuple" ∧ o.data = .seq its n ∧ its.size ≤ sizeLine ∧ Vals xs its.toList
def absV : Value → Option V
  | .none => some .non
  | .bool b => some (.bl b)
  | .int i _ => some (.int i)
  | .str x _ => some (.str x)
  | .bytes b _ => some (.byt b)
  | .float b _ => some (.flt b)
  | .ref a => some (.ref a)
  | .type n => some (.ty n)
  | _ => none
theorem RelV.abs {x : V} {u : Value} (r : RelV x u) : absV u = some x := by
  cases x with
  | non => cases r; rfl
  | bl _ => cases r; rfl
  | int _ => obtain ⟨t, rfl⟩ := r; rfl
  | str _ => obtain ⟨t, rfl⟩ := r; rfl
  | byt _ => obtain ⟨t, rfl⟩ := r; rfl
  | flt _ => obtain ⟨t, rfl⟩ := r; rfl
  | ref _ => cases r; rfl
  | ty _ => cases r; rfl
theorem RelV.inj {x y : V} {u : Value} (r : RelV x u) (q : RelV y u) : x = y := Option.some.inj (r.abs.symm.trans q.abs)
theorem Vals.inj : ∀ {xs ys : List V} {us : List Value}, Vals xs us → Vals ys us → xs = ys
  | _, _, _, .nil, .nil => rfl
  | _, _, _, .cons r t, .cons r' t' => by rw [r.inj r', Vals.inj t t']
section
variable {X : Cx} {pins : List (Addr × Obj)} {σ : St} {H : Hp} {s : Shared} {a : Addr} {xs ys : List V}
theorem SqL.of {K : PySem.W.Frag} (h : H a = some (.lst xs)) : SqL K H a xs := .inl (.inl h)
theorem SqT.of {K : PySem.W.Frag} (h : H a = some (.tup xs)) : SqT K H a xs := .inl (.inl h)
theorem Inv.list (I : Inv X pins σ H s) (h : SqL X.K H a xs) : ∃ its : List Value, Vals xs its ∧ PlainL s.heap a its.toArray ∧ xs.length ≤ sizeLine := by
  rcases h with h | ⟨o, its, n, hk, hc, hd, hs, hz, r⟩
  · obtain ⟨z, its, n, r, e⟩ := h.ok I.hok
    exact ⟨its, r, ⟨_, n, e, rfl, rfl, rfl⟩, z⟩
  · refine ⟨its.toList, r, ⟨o, n, I.kIn a o hk, hc, hd, by simpa using hs⟩, ?_⟩
    have e := r.length
    simp only [Array.length_toList] at e
    omega
theorem Inv.tuple (I : Inv X pins σ H s) (h : SqT X.K H a xs) : ∃ its : List Value, Vals xs its ∧ IsTup s.heap a its.toArray ∧ xs.length ≤ sizeLine := by
  rcases h with h | ⟨o, its, n, hk, hc, hs, hz, r⟩
  · obtain ⟨z, its, r, p⟩ := h.ok I.hok
    exact ⟨its, r, p, z⟩
  · refine ⟨its.toList, r, ⟨o, I.kIn a o hk, hc, n, by simpa using hs⟩, ?_⟩
    have e := r.length
    simp only [Array.length_toList] at e
    omega
theorem Inv.list_inj (I : Inv X pins σ H s) (h : SqL X.K H a xs) (h' : SqL X.K H a ys) : xs = ys := by
  obtain ⟨its, r, ⟨o, n, e, _, _, d⟩, _⟩ := I.list h
  obtain ⟨its', r', ⟨o', n', e', _, _, d'⟩, _⟩ := I.list h'
  rw [e] at e'; cases e'
  rw [d] at d'
  injection d' with d1 _
  have : its = its' := by simpa using congrArg Array.toList d1
  subst this
  exact r.inj r'
theorem Inv.tuple_inj (I : Inv X pins σ H s) (h : SqT X.K H a xs) (h' : SqT X.K H a ys) : xs = ys := by
  obtain ⟨its, r, ⟨o, e, _, n, d⟩, _⟩ := I.tuple h
  obtain ⟨its', r', ⟨o', e', _, n', d'⟩, _⟩ := I.tuple h'
  rw [e] at e'; cases e'
  rw [d] at d'
  injection d' with d1 _
  have : its = its' := by simpa using congrArg Array.toList d1
  subst this
  exact r.inj r'
end

/-! ### another wish about exceptions -/
abbrev Cx.wish (X : Cx) (E : Value → Shared → Prop) : Cx := { X with xe := E }
/-- no exception leaves -/
abbrev Cx.nox (X : Cx) : Cx := X.wish fun _ _ => False
theorem Cx.Ok.wish {X : Cx} (ok : X.Ok) (E : Value → Shared → Prop) : (X.wish E).Ok :=
  ⟨ok.mod, ok.kind, ok.glob, ok.blt, ok.above, ok.inj, ok.has, ok.cab, ok.hd, ok.frames, ok.stk, ok.exf, ok.bs, ok.bsz, ok.noex, ok.exfs, ok.funs, ok.frf⟩
theorem Cx.Ok.unwish {X : Cx} {E : Value → Shared → Prop} (ok : (X.wish E).Ok) : X.Ok :=
  ⟨ok.mod, ok.kind, ok.glob, ok.blt, ok.above, ok.inj, ok.has, ok.cab, ok.hd, ok.frames, ok.stk, ok.exf, ok.bs, ok.bsz, ok.noex, ok.exfs, ok.funs, ok.frf⟩
section
variable {X : Cx} {pins : List (Addr × Obj)} {σ : St} {H : Hp} {s : Shared} {E : Value → Shared → Prop}
theorem Inv.wish (I : Inv X pins σ H s) (E : Value → Shared → Prop) : Inv (X.wish E) pins σ H s := ⟨I.ok.wish E, I.os, I.bare, I.base, I.loc, I.cell, I.free, I.freeC, I.pin, I.hok, I.len⟩
theorem Inv.unwish (I : Inv (X.wish E) pins σ H s) : Inv X pins σ H s := ⟨I.ok.unwish, I.os, I.bare, I.base, I.loc, I.cell, I.free, I.freeC, I.pin, I.hok, I.len⟩
theorem SP.unwish {D : Ends} {f : Flow} {s' : Shared} (h : SP (X.wish E) pins D f s') : SP X pins D f s' := by
  cases f with
  | next => obtain ⟨σ', H', I, q⟩ := h; exact ⟨σ', H', I.unwish, q⟩
  | brk => obtain ⟨σ', H', I, q⟩ := h; exact ⟨σ', H', I.unwish, q⟩
  | cont => obtain ⟨σ', H', I, q⟩ := h; exact ⟨σ', H', I.unwish, q⟩
  | ret u => obtain ⟨v, σ', H', I, r, q⟩ := h; exact ⟨v, σ', H', I.unwish, r, q⟩
theorem PE.nox {e : Expr} {t : TE} (h : PE X.nox e t) : PE X e t := fun pins s σ H Q I hw =>
  wpAny_mono (h pins s σ H Q (I.wish _) hw) (fun _ _ ⟨v, H', I', r, q⟩ => ⟨v, H', I'.unwish, r, q⟩) fun _ _ z => False.elim z
theorem PT.nox {e : Expr} {t : TT} (h : PT X.nox e t) : PT X e t := fun pins s σ H Q I hw =>
  wpAny_mono (h pins s σ H Q (I.wish _) hw) (fun _ _ ⟨H', I', q⟩ => ⟨H', I'.unwish, q⟩) fun _ _ z => False.elim z
theorem PSs.nox {st : List Stmt} {t : TS} (h : PSs X.nox st t) : PSs X st t := fun pins s σ H D I hw =>
  wpAny_mono (h pins s σ H D (I.wish _) hw) (fun _ _ q => q.unwish) fun _ _ z => False.elim z
end

/-! ### blocks and small statements -/
section
variable {X : Cx} {st : Stmt} {rest : List Stmt} {t u : TS} {e : Expr} {te : TE} {pos : Pos}
def tNext : TS := fun D σ H => D.nx σ H
def tSeq (t u : TS) : TS := fun D σ H => t { D with nx := u D } σ H
theorem pss_nil : PSs X [] tNext := fun _ _ σ H _ I h => wpAny_execs_nil ⟨σ, H, I, h⟩
theorem pss_cons (h1 : PS X st t) (h2 : PSs X rest u) : PSs X (st :: rest) (tSeq t u) := by
  intro pins s σ H D I h
  refine wpAny_execs_cons (thn (h1 pins s σ H { D with nx := u D } I h) fun f s1 q => ?_)
  cases f with
  | next =>
    obtain ⟨σ', H', I', q⟩ := q
    exact h2 pins s1 σ' H' D I' q
  | ret v => exact q
  | brk => exact q
  | cont => exact q
theorem pss_one (h1 : PS X st t) : PSs X [st] t := by
  intro pins s σ H D I h
  refine wpAny_execs_cons (thn (h1 pins s σ H D I h) fun f s1 q => ?_)
  cases f with
  | next => exact wpAny_execs_nil q
  | ret v => exact q
  | brk => exact q
  | cont => exact q
def tBreak : TS := fun D σ H => D.bk σ H
def tCont : TS := fun D σ H => D.ct σ H
theorem ps_pass : PS X (.Pass pos) tNext := fun _ _ σ H _ I h => wpAny_Pass ⟨σ, H, I, h⟩
theorem ps_break : PS X (.Break pos) tBreak := fun _ _ σ H _ I h => wpAny_Break ⟨σ, H, I, h⟩
theorem ps_continue : PS X (.Continue pos) tCont := fun _ _ σ H _ I h => wpAny_Continue ⟨σ, H, I, h⟩
/-- in a def's body nothing is shown -/
theorem Inv.quiet {pins : List (Addr × Obj)} {σ : St} {H : Hp} {s : Shared} (I : Inv X pins σ H s) : interactive X.env = false := by simp [interactive, I.ok.kind]
/-- a docstring -/
theorem ps_doc {x j pos pos'} : PS X (.Expr (.Constant (.str x) j pos) pos') tNext := fun _ s σ H _ I h => wpAny_Expr (Calls.Constant_str (show SP X _ _ .next { s with toks := s.toks + 1 } from ⟨σ, H, I.tok _, h⟩)) I.quiet
/-- an expression whose value is dropped -/
def tDrop (te : TE) : TS := fun D σ H => te σ H fun _ H1 => D.nx σ H1
theorem ps_expr (he : PE X e te) (hs : swapsWith e none pos.line X.env = pure false := by rfl) : PS X (.Expr e pos) (tDrop te) := by
  intro pins s σ H D I h
  exact wpAny_Expr_any (thn (he pins s σ H _ I h) fun v s1 ⟨x, H1, I1, r1, q1⟩ => ⟨σ, H1, I1, q1⟩) I.quiet hs
def tRet (te : TE) : TS := fun D σ H => te σ H D.rt
theorem ps_ret (he : PE X e te) : PS X (.Return (some e) pos) (tRet te) := by
  intro pins s σ H D I h
  exact wpAny_Return_some (thn (he pins s σ H _ I h) fun v s1 ⟨x, H1, I1, r1, q1⟩ => ⟨x, σ, H1, I1, r1, q1⟩)
def tRetN : TS := fun D _ H => D.rt .non H
theorem ps_retN : PS X (.Return none pos) tRetN := fun _ _ σ H _ I h => wpAny_Return_none ⟨.non, σ, H, I, rfl, h⟩
def tIfS (c : TT) (t u : TS) : TS := fun D σ H => c σ H fun b H1 => if b = true then t D σ H1 else u D σ H1
theorem ps_if {c : Expr} {a b : List Stmt} {tc : TT} (hc : PT X c tc) (ha : PSs X a t) (hb : PSs X b u) : PS X (.If c a b pos) (tIfS tc t u) := by
  intro pins s σ H D I h
  refine wpAny_If (thn (hc pins s σ H _ I h) fun d s1 ⟨H1, I1, q1⟩ => ?_)
  cases d with
  | true => exact ha pins s1 σ H1 D I1 q1
  | false => exact hb pins s1 σ H1 D I1 q1
/-- code that the proof never comes to -/
def tNever : TS := fun _ _ _ => False
theorem ps_never : PS X st tNever := fun _ _ _ _ _ _ h => h.elim
theorem pss_never {sts : List Stmt} : PSs X sts tNever := fun _ _ _ _ _ _ h => h.elim
end

/-! ### targets -/
abbrev TG := V → St → Hp → (St → Hp → Prop) → Prop
abbrev TGs := List V → St → Hp → (St → Hp → Prop) → Prop
def PG (X : Cx) (target : Expr) (t : TG) : Prop :=
  ∀ (pins : List (Addr × Obj)) (s : Shared) (σ : St) (H : Hp) (v : V) (u : Value) (Q : St → Hp → Prop), Inv X pins σ H s → RelV v u → t v σ H Q →
    wpAny (model X.prog X.w) X.A (assign target X.env u) (fun _ s' => ∃ σ' H', Inv X pins σ' H' s' ∧ Q σ' H') X.xe s
/-- several targets, one after another -/
def PGs (X : Cx) (ts : List Expr) (t : TGs) : Prop :=
  ∀ (pins : List (Addr × Obj)) (s : Shared) (σ : St) (H : Hp) (vs : List V) (us : List Value) (Q : St → Hp → Prop), Inv X pins σ H s → Vals vs us → t vs σ H Q →
    wpAny (model X.prog X.w) X.A (assignInOrder ((assignEach ts X.env).map (·.2)) us) (fun _ s' => ∃ σ' H', Inv X pins σ' H' s' ∧ Q σ' H') X.xe s
/-- o[i] = v, by values -/
abbrev TSet := V → V → V → Hp → (Hp → Prop) → Prop
def PSet (X : Cx) (t : TSet) : Prop :=
  ∀ (pins : List (Addr × Obj)) (s : Shared) (σ : St) (H : Hp) (o i v : V) (ov iv u : Value) (Q : Hp → Prop), Inv X pins σ H s → RelV o ov → RelV i iv → RelV v u → t o i v H Q →
    wpAny (model X.prog X.w) X.A (setItem ov iv u) (fun _ s' => ∃ H', Inv X pins σ H' s' ∧ Q H') X.xe s
/-- a op= b, by values -/
abbrev TIp := V → V → Hp → VK → Prop
def PIp (X : Cx) (op : Operator) (t : TIp) : Prop :=
  ∀ (pins : List (Addr × Obj)) (s : Shared) (σ : St) (H : Hp) (x y : V) (v u : Value) (Q : VK), Inv X pins σ H s → RelV x v → RelV y u → t x y H Q →
    wpAny (model X.prog X.w) X.A (inplaceOp op v u) (EP X pins σ Q) X.xe s
section
variable {X : Cx} {pos : Pos}
def gName (i : Nat) : TG := fun v σ H Q => Q (σ.set i (some v)) H
theorem pg_name {i : Nat} {x : Str} (hN : X.N.Nodup) (hi : X.N[i]? = some x) (hx : Loc X.env.scope x) (hf : X.fn x = true ∨ X.env.scope.names.lookup x = some .local := by first | exact .inl rfl | exact .inr rfl | assumption) : PG X (.Name x pos) (gName i) := by
  intro pins s σ H v u Q I r h
  exact wpAny_assign_Name (store_ok I hN hi hx r (fun s' I' => ⟨_, H, I', h⟩) hf)
def gNil : TGs := fun vs σ H Q => vs = [] ∧ Q σ H
def gCons (t : TG) (u : TGs) : TGs := fun vs σ H Q => ∃ v r, vs = v :: r ∧ t v σ H fun σ' H' => u r σ' H' Q
theorem pgs_nil : PGs X [] gNil := by
  intro pins s σ H vs us Q I r h
  obtain ⟨e, h⟩ := h
  subst e
  cases r
  exact assignInOrder_nil ⟨σ, H, I, h⟩
theorem pgs_cons {e : Expr} {es : List Expr} {t : TG} {u : TGs} (h1 : PG X e t) (h2 : PGs X es u)
    (hs : (assignEach (e :: es) X.env).map (·.2) = assign e X.env :: (assignEach es X.env).map (·.2) := by rfl) : PGs X (e :: es) (gCons t u) := by
  intro pins s σ H vs us Q I r h
  obtain ⟨v, vr, e1, h⟩ := h
  subst e1
  cases r with
  | cons r rr =>
    rw [hs]
    refine assignInOrder_cons (thn (h1 pins s σ H _ _ _ I r h) fun _ s1 ⟨σ1, H1, I1, q1⟩ => ?_)
    exact h2 pins s1 σ1 H1 _ _ Q I1 rr q1
/-- (a, b, ..) = a tuple of that length -/
def gTup (K : PySem.W.Frag) (n : Nat) (t : TGs) : TG := fun v σ H Q => ∃ a xs, v = .ref a ∧ SqT K H a xs ∧ xs.length = n ∧ t xs σ H Q
theorem pg_tup {es : List Expr} {k : Nat} {t : TGs} {n : Nat} (hc : X.calm = true) (h : PGs X es t)
    (hn : (assignEach es X.env).length = n := by rfl) (hst : (assignEach es X.env).findIdx? (·.1) = none := by rfl) : PG X (.Tuple es k pos) (gTup X.K n t) := by
  intro pins s σ H v u Q I r hw
  obtain ⟨a, xs, e1, hq, hl, hw⟩ := hw
  subst e1
  cases r
  obtain ⟨its, rv, ht, hz⟩ := I.tuple hq
  refine assign_Tuple_tuple (I.ok.hd hc) ht (by simp [hn, ← hl, rv.length]) hst fun h' hx => ?_
  have I1 : Inv X pins σ H { s with heap := h' } := I.kept (t' := s.toks) fun b o e => hx b o (Nat.ne_of_lt (Heap.lt_size e)) e
  exact h pins _ σ H xs _ Q I1 (by simpa using rv) hw
/-- o[i] = .. -/
def gSub (to ti : TE) (t : TSet) : TG := fun v σ H Q => to σ H fun o H1 => ti σ H1 fun i H2 => t o i v H2 fun H3 => Q σ H3
theorem pg_sub {o i : Expr} {to ti : TE} {t : TSet} (ho : PE X o to) (hi : PE X i ti) (hs : PSet X t)
    (ha : ∀ v, assign (.Subscript o i pos) X.env v = (do
      let ov ← holding [v] (eval o X.env)
      let iv ← holding [v, ov] (eval i X.env)
      standAt pos
      holding [v, ov, iv] (setItem ov iv v)
      release [v, ov, iv] []) := by intro _; rfl) : PG X (.Subscript o i pos) (gSub to ti t) := by
  intro pins s σ H v u Q I r h
  rw [ha]
  refine wpAny_bind (wpAny_holding (thn (ho pins s σ H _ I h) fun ov s1 ⟨x, H1, I1, r1, q1⟩ => ?_))
  refine wpAny_bind (wpAny_holding (thn (hi pins s1 σ H1 _ I1 q1) fun iv s2 ⟨y, H2, I2, r2, q2⟩ => ?_))
  refine wpAny_bind (wpAny_standAt (wpAny_bind (wpAny_holding (thn (hs pins s2 σ H2 x y v ov iv u _ I2 r1 r2 r q2) fun _ s3 ⟨H3, I3, q3⟩ => ?_))))
  exact wpAny_release ⟨σ, H3, I3, q3⟩
/-- target = value -/
def tAsg (te : TE) (g : TG) : TS := fun D σ H => te σ H fun x H1 => g x σ H1 D.nx
theorem ps_asg {tg e : Expr} {te : TE} {g : TG} (he : PE X e te) (hg : PG X tg g) (hs : swapsWithSole [tg] e pos.line X.env = pure false := by rfl) (hw : swappedStores [tg] e X.env = pure none := by rfl)
    (h1 : (assignEach [tg] X.env).map (·.2) = [assign tg X.env] := by rfl) : PS X (.Assign [tg] e pos) (tAsg te g) := by
  intro pins s σ H D I h
  refine wpAny_Assign_stores (thn (he pins s σ H _ I h) fun v s1 ⟨x, H1, I1, r1, q1⟩ => ?_) hs hw
  rw [h1]
  exact thn (hg pins s1 σ H1 x v _ I1 r1 q1) fun _ s2 q => q
/-- name = value -/
theorem ps_set {i : Nat} {x : Str} {e : Expr} {te : TE} {pos' : Pos} (hN : X.N.Nodup) (hi : X.N[i]? = some x) (hx : Loc X.env.scope x) (he : PE X e te) (hs : swapsWith e (some (.Name x pos')) pos.line X.env = pure false := by rfl) (hf : X.fn x = true ∨ X.env.scope.names.lookup x = some .local := by first | exact .inl rfl | exact .inr rfl | assumption) :
    PS X (.Assign [.Name x pos'] e pos) (tAsg te (gName i)) := by
  intro pins s σ H D I h
  refine wpAny_Assign_Name (thn (he pins s σ H _ I h) fun v s1 ⟨y, H1, I1, r1, q1⟩ => ?_) hs
  exact store_ok I1 hN hi hx r1 (fun s2 I2 => ⟨_, H1, I2, q1⟩) hf
/-- a, b = x, y with plain local names: stored from the right; the pair itself is not tracked (the opening rows as in PyProof/Rows/TupAssign.lean:23) -/
def tPar (i j : Nat) (ta : TA) : TS := fun D σ H => ta σ H fun vs H1 => ∃ v w, vs = [v, w] ∧ D.nx ((σ.set i (some v)).set j (some w)) H1
theorem ps_par {i j : Nat} {x y : Str} {a b : Expr} {ta : TA} {px py pt : Pos} {kt k2 pt2} (hc : X.calm = true) (hN : X.N.Nodup) (hi : X.N[i]? = some x) (hj : X.N[j]? = some y) (hij : i ≠ j)
    (hx : X.env.scope.names.lookup x = some .local) (hy : X.env.scope.names.lookup y = some .local) (ha : PA X [a, b] ta)
    (hw : swappedStores [.Tuple [.Name x px, .Name y py] kt pt] (.Tuple [a, b] k2 pt2) X.env = pure (some [x, y]))
    (hs : swapsWithSole [.Tuple [.Name x px, .Name y py] kt pt] (.Tuple [a, b] k2 pt2) pos.line X.env = pure false := by rfl) :
    PS X (.Assign [.Tuple [.Name x px, .Name y py] kt pt] (.Tuple [a, b] k2 pt2) pos) (tPar i j ta) := by
  intro pins s σ H D I h
  rw [exec_Assign_arm]
  refine wpAny_bind (wpAny_standAt ?_)
  rw [hs]
  refine wpAny_bind (wpAny_pure ?_)
  rw [if_neg (by decide)]
  refine wpAny_bind (Tuple_ (thn (ha _ pins s σ H _ I h) fun us s1 ⟨vs, H1, I1, r1, q1⟩ => ?_))
  obtain ⟨v, w, e1, q1⟩ := q1
  subst e1
  obtain ⟨u1, u2, rfl, rv, rw'⟩ : ∃ u1 u2, us = [u1, u2] ∧ RelV v u1 ∧ RelV w u2 := by
    cases r1 with
    | cons p q =>
      cases q with
      | cons p' q' =>
        cases q'
        exact ⟨_, _, rfl, p, p'⟩
  refine wpAny_newObj_type ?_ (by show 2 ≤ sizeLine; decide)
  have I2 : Inv X pins σ H1 { s1 with heap := s1.heap.push { cls := .type "tuple", data := .seq [u1, u2].toArray } } := I1.kept (t' := s1.toks) fun b o e => Heap.get?_push_of_some _ e
  rw [hw]
  refine wpAny_bind (wpAny_pure ?_)
  show wpAny (model X.prog X.w) X.A (do rule "assign.swapped-stores"; let items ← unpackItems (.ref s1.heap.objs.size) 2 none; assignInOrder [fun v => bindName X.env y v, fun v => bindName X.env x v] items.reverse; pure Flow.next) _ _ _
  refine wpAny_bind (wpAny_rule (wpAny_bind (unpackItems_tuple (items := #[u1, u2]) (I.ok.hd hc) (IsTup.new s1.heap _) fun h' hx' => ?_)))
  have I3 := I2.kept (h' := h') (t' := s1.toks) fun b o e => hx' b o (Nat.ne_of_lt (Heap.lt_size e)) e
  show wpAny _ _ (assignInOrder [fun v => bindName X.env y v, fun v => bindName X.env x v] [u2, u1] >>= fun _ => pure Flow.next) _ _ _
  refine wpAny_bind (assignInOrder_cons (wpAny_bindName (store_ok I3 hN hj (.inl hy) rw' (fun s2 I4 => ?_) (.inr hy))))
  refine assignInOrder_cons (wpAny_bindName (store_ok I4 hN hi (.inl hx) rv (fun s3 I5 => assignInOrder_nil (wpAny_pure ?_)) (.inr hx)))
  rw [List.set_comm _ _ (Ne.symm hij)] at I5
  exact ⟨_, H1, I5, q1⟩
/-- name op= e -/
def tAug (i : Nat) (te : TE) (ti : TIp) : TS := fun D σ H => ∃ x, σ[i]? = some (some x) ∧ te σ H fun y H1 => ti x y H1 fun z H2 => D.nx (σ.set i (some z)) H2
theorem ps_aug {i : Nat} {x : Str} {e : Expr} {te : TE} {op : Operator} {ti : TIp} {pos' : Pos} (hN : X.N.Nodup) (hi : X.N[i]? = some x) (hx : Loc X.env.scope x) (he : PE X e te) (ho : PIp X op ti) (hf : X.fn x = true ∨ X.env.scope.names.lookup x = some .local := by first | exact .inl rfl | exact .inr rfl | assumption) :
    PS X (.AugAssign (.Name x pos') op e pos) (tAug i te ti) := by
  intro pins s σ H D I h
  obtain ⟨v, e1, h⟩ := h
  obtain ⟨m, hn, hl⟩ := I.loc
  have vis : Vis X.env.scope x := by rcases hx with k | k; exact .inl k; exact .inr (.inl k)
  obtain ⟨u, r, l⟩ := hl i x v hi e1 vis
  refine wpAny_AugAssign_Name ?_
  have go : wpAny (model X.prog X.w) X.A (eval e X.env) (fun w s₂ => wpAny (model X.prog X.w) X.A (inplaceOp op u w) (fun r s₃ => wpAny (model X.prog X.w) X.A (storeName X.env x r) (fun _ => SP X pins D .next) X.xe s₃) X.xe s₂) X.xe s := by
    refine thn (he pins s σ H _ I h) fun w s1 ⟨y, H1, I1, r1, q1⟩ => ?_
    refine thn (ho pins s1 σ H1 v y u w _ I1 r r1 q1) fun z s2 ⟨zv, H2, I2, r2, q2⟩ => ?_
    exact store_ok I2 hN hi hx r2 (fun s3 I3 => ⟨_, H2, I3, q2⟩) hf
  rcases l with ⟨hk, hm⟩ | ⟨hk, c, hc, hcell⟩
  · exact wpAny_loadName_local I.ok.kind hk hn hm go
  · rcases hk with hk | hk
    · exact wpAny_loadName_cell I.ok.kind hk hc hcell go
    · rcases hx with k | k
      · have : X.env.scope.names.lookup x = some .free := hk
        rw [k] at this; cases this
      · have : X.env.scope.names.lookup x = some .free := hk
        rw [k] at this; cases this
/-- o[i] op= e -/
def tAugS (to ti te : TE) (tget : V → V → Hp → VK → Prop) (tip : TIp) (tset : TSet) : TS := fun D σ H => to σ H fun o H1 => ti σ H1 fun i H2 => tget o i H2 fun x H3 => te σ H3 fun y H4 => tip x y H4 fun z H5 => tset o i z H5 fun H6 => D.nx σ H6
/-- o[i], by values -/
def PGet (X : Cx) (t : V → V → Hp → VK → Prop) : Prop :=
  ∀ (pins : List (Addr × Obj)) (s : Shared) (σ : St) (H : Hp) (o i : V) (ov iv : Value) (Q : VK), Inv X pins σ H s → RelV o ov → RelV i iv → t o i H Q →
    wpAny (model X.prog X.w) X.A (getItem ov iv) (EP X pins σ Q) X.xe s
theorem ps_augS {o i e : Expr} {to ti te : TE} {tget : V → V → Hp → VK → Prop} {tip : TIp} {tset : TSet} {op : Operator} {tpos : Pos} (ho : PE X o to) (hi : PE X i ti) (hg : PGet X tget) (he : PE X e te) (hp : PIp X op tip) (hs : PSet X tset)
    (ha : ∀ ov iv new, augStore i ov iv new = (do holding [new, ov, iv] (setItem ov iv new); release [new, ov, iv] []; pure .next) := by intros; rfl) : PS X (.AugAssign (.Subscript o i tpos) op e pos) (tAugS to ti te tget tip tset) := by
  intro pins s σ H D I h
  refine wpAny_AugAssign_SubscriptAny (thn (ho pins s σ H _ I h) fun ov s1 ⟨x1, H1, I1, r1, q1⟩ => ?_) ha
  refine thn (hi pins s1 σ H1 _ I1 q1) fun iv s2 ⟨x2, H2, I2, r2, q2⟩ => ?_
  refine thn (hg pins s2 σ H2 x1 x2 ov iv _ I2 r1 r2 q2) fun old s3 ⟨x3, H3, I3, r3, q3⟩ => ?_
  refine thn (he pins s3 σ H3 _ I3 q3) fun v s4 ⟨x4, H4, I4, r4, q4⟩ => ?_
  refine thn (hp pins s4 σ H4 x3 x4 old v _ I4 r3 r4 q4) fun new s5 ⟨x5, H5, I5, r5, q5⟩ => ?_
  exact thn (hs pins s5 σ H5 x1 x2 x5 ov iv new _ I5 r1 r2 r5 q5) fun _ s6 ⟨H6, I6, q6⟩ => ⟨σ, H6, I6, q6⟩
/-- ints -/
def ipI (f : Int → Int → Int) : TIp := fun x y H Q => ∃ i j, x = .int i ∧ y = .int j ∧ Q (.int (f i j)) H
theorem ip_add : PIp X .Add (ipI fun i j => i + j) := by
  intro pins s σ H x y v u Q I r1 r2 h
  obtain ⟨i, j, e1, e2, q⟩ := h
  subst e1; subst e2
  obtain ⟨t, rfl⟩ := r1
  obtain ⟨t', rfl⟩ := r2
  exact iadd_int ⟨.int _, H, I.tok _, ⟨_, rfl⟩, q⟩
theorem ip_sub : PIp X .Sub (ipI fun i j => i - j) := by
  intro pins s σ H x y v u Q I r1 r2 h
  obtain ⟨i, j, e1, e2, q⟩ := h
  subst e1; subst e2
  obtain ⟨t, rfl⟩ := r1
  obtain ⟨t', rfl⟩ := r2
  exact isub_int ⟨.int _, H, I.tok _, ⟨_, rfl⟩, q⟩
end

/-! ### while -/
section
variable {X : Cx} {pos : Pos}
/-- the invariant W with its measure -/
def tWhile (c : TT) (tb : TS) : TS := fun D σ H => ∃ W : Nat → St → Hp → Prop, (∃ m, W m σ H) ∧ ∀ m σ H, W m σ H →
  c σ H fun b H1 => if b = true then ∃ N : St → Hp → Prop, (∀ σ' H', N σ' H' → ∃ m', m' < m ∧ W m' σ' H') ∧ tb { D with nx := N, ct := N, bk := D.nx } σ H1 else D.nx σ H1
theorem ps_while {c : Expr} {body : List Stmt} {tc : TT} {tb : TS} (hp : PassesOwn (model X.prog X.w) X.A X.env X.xe) (hc : PT X c tc) (hb : PSs X body tb) : PS X (.While c body [] pos) (tWhile tc tb) := by
  intro pins s σ H D I h
  obtain ⟨W, ⟨m0, w0⟩, turn⟩ := h
  refine wpAny_While (codeAny_whileLoop (fun n s' => ∃ σ' H', Inv X pins σ' H' s' ∧ W n σ' H') ?_ m0 ⟨σ, H, I, w0⟩)
  rintro n s1 ⟨σ1, H1, I1, w1⟩
  refine wpAny_passesOwn hp (thn (hc pins s1 σ1 H1 _ I1 (turn n σ1 H1 w1)) fun b s2 ⟨H2, I2, q2⟩ => ?_)
  cases b with
  | true =>
    obtain ⟨N, hN, q2⟩ := q2
    rw [if_pos rfl]
    refine wpAny_passesOwn hp (thn (hb pins s2 σ1 H2 _ I2 q2) fun f s3 q3 => ?_)
    cases f with
    | next =>
      obtain ⟨σ3, H3, I3, n3⟩ := q3
      obtain ⟨m', hm, w3⟩ := hN σ3 H3 n3
      exact ⟨m', hm, σ3, H3, I3, w3⟩
    | cont =>
      obtain ⟨σ3, H3, I3, n3⟩ := q3
      obtain ⟨m', hm, w3⟩ := hN σ3 H3 n3
      exact ⟨m', hm, σ3, H3, I3, w3⟩
    | brk => exact q3
    | ret v => exact q3
  | false =>
    rw [if_neg Bool.false_ne_true]
    exact wpAny_execs_nil ⟨σ1, H2, I2, q2⟩
end

/-! ### what a loop or a comprehension walks -/
/-- at turn i: it yields x (the heap may grow), or it stops -/
structure It where
  go : Nat → Hp → Prop
  yld : Nat → Hp → V → Hp → Prop
  stop : Nat → Hp → Prop
/-- the iterator's own objects may turn: they are not the frame's, not pinned, younger than the entry (or a comprehension's own) -/
def FpOk (X : Cx) (pins : List (Addr × Obj)) (H : Hp) (b : Addr) : Prop :=
  H b = none ∧ b ≠ X.env.locals ∧ b ∉ X.fs ∧ (b ∈ X.ex ∨ X.s₀.heap.objs.size ≤ b) ∧ (∀ x c, X.env.cells.lookup x = some c → c ≠ b) ∧ ∀ p ∈ X.pn ++ pins, p.1 ≠ b
theorem Inv.fpOk {X : Cx} {pins : List (Addr × Obj)} {σ : St} {H H' : Hp} {s : Shared} {b : Addr} (I : Inv X pins σ H s) (hb : s.heap.objs.size ≤ b) (hn : H' b = none) : FpOk X pins H' b := by
  refine ⟨hn, Nat.ne_of_gt (Nat.lt_of_lt_of_le I.lt hb), I.nofs hb, .inr (Nat.le_trans I.sz hb), fun x c e z => ?_, fun p hp z => ?_⟩
  · obtain ⟨v, q⟩ := I.cell x c e
    exact absurd (Nat.lt_of_lt_of_le q.lt (by rw [z]; exact hb)) (Nat.lt_irrefl _)
  · exact absurd (Nat.lt_of_lt_of_le (Heap.lt_size (I.pin p hp).1) (by rw [z]; exact hb)) (Nat.lt_irrefl _)
structure Turn (P : Program) (w : World) (K : PySem.W.Frag) (tg : Expr) (J : It) (fp : List Addr) (it : Addr) (tn : Nat → Heap → Prop) : Prop where
  mem : it ∈ fp
  obj : ∀ i h, tn i h → ∀ b ∈ fp, ∃ o, h.get? b = some o ∧ ∀ v, o.data ≠ .cell v
  keep : ∀ i h h', tn i h → (∀ b ∈ fp, ∀ o, h.get? b = some o → h'.get? b = some o) → tn i h'
  item : ∀ (X : Cx), X.prog = P → X.w = w → X.K = K → X.calm = true → ∀ (i : Nat) (pins : List (Addr × Obj)) (s : Shared) (σ : St) (H : Hp) (E : Value → Shared → Prop), Inv X pins σ H s → (∀ b ∈ fp, FpOk X pins H b) → tn i s.heap → J.go i H →
    wpAny (model P w) X.A (pyNext (.ref it)) (fun r s1 => ∃ u, r = some u ∧
      wpAny (model P w) X.A (letOwnedTupleGo tg (.ref it) u) (fun _ s2 => ∃ x H', Inv X pins σ H' s2 ∧ RelV x u ∧ J.yld i H x H' ∧ tn (i + 1) s2.heap ∧ ∀ b ∈ fp, H' b = none) E s1) E s
  done : ∀ (X : Cx), X.prog = P → X.w = w → X.K = K → X.calm = true → ∀ (i : Nat) (pins : List (Addr × Obj)) (s : Shared) (σ : St) (H : Hp) (E : Value → Shared → Prop), Inv X pins σ H s → (∀ b ∈ fp, FpOk X pins H b) → tn i s.heap → J.stop i H →
    wpAny (model P w) X.A (pyNext (.ref it)) (fun r s1 => r = none ∧ Inv X pins σ H s1) E s
  self : ∀ (A : Around) (i : Nat) (s : Shared) (Q : Value → Shared → Prop) (E : Value → Shared → Prop), tn i s.heap → Q (.ref it) s → wpAny (model P w) A (pyIter (.ref it)) Q E s
abbrev TI := St → Hp → (It → Hp → Prop) → Prop
/-- an iterator has come -/
def PIE (X : Cx) (pins : List (Addr × Obj)) (σ : St) (tg : Expr) (R : It → Hp → Prop) (itv : Value) (s2 : Shared) : Prop :=
  ∃ (it : Addr) (fp : List Addr) (tn : Nat → Heap → Prop) (J : It) (H' : Hp), itv = .ref it ∧ Inv X pins σ H' s2 ∧ Turn X.prog X.w X.K tg J fp it tn ∧ tn 0 s2.heap ∧ (∀ b ∈ fp, FpOk X pins H' b) ∧ R J H'
def PI (X : Cx) (tg iter : Expr) (wi : TI) : Prop :=
  ∀ (pins : List (Addr × Obj)) (s : Shared) (σ : St) (H : Hp) (R : It → Hp → Prop), Inv X pins σ H s → wi σ H R →
    wpAny (model X.prog X.w) X.A (eval iter X.env) (fun v s1 => wpAny (model X.prog X.w) X.A (pyIter v) (PIE X pins σ tg R) X.xe s1) X.xe s

/-- the step ahead of the store is nothing for an iterator that keeps no tuple -/
theorem go_of {M : Model} {A : Around} {E : Value → Shared → Prop} {s : Shared} {tg : Expr} {it : Addr} {u : Value} {o : Obj} {n : String} {vs : Array Value} {Q : Unit → Shared → Prop} (ho : s.heap.get? it = some o) (hc : o.cls = .type n) (hd : o.data = .fields vs)
    (hn : ["enumerate", "zip", "dict_itemiterator", "dict_reverseitemiterator", "odict_iterator", "itertools.zip_longest", "itertools.pairwise"].contains n = false) (hQ : Q () s) : wpAny M A (letOwnedTupleGo tg (.ref it) u) Q E s := by
  unfold letOwnedTupleGo
  cases tg <;> first
    | exact wpAny_pure hQ
    | (cases u <;> first
        | exact wpAny_pure hQ
        | (refine wpAny_bind (wpAny_load ho ?_)
           rw [hc, hd]
           show wpAny M A (if (["enumerate", "zip", "dict_itemiterator", "dict_reverseitemiterator", "odict_iterator", "itertools.zip_longest", "itertools.pairwise"].contains n && vs[0]? == some (rawInt _)) = true then _ else _) Q E s
           rw [if_neg (by intro h; rw [hn, Bool.false_and] at h; cases h)]
           exact wpAny_pure hQ))

/-- the list at a, as it stands at each turn (a loop may append to it) -/
def Itl (K : PySem.W.Frag) (a : Addr) : It :=
  ⟨fun i H => ∃ xs x, SqL K H a xs ∧ xs[i]? = some x, fun i H x H' => H' = H ∧ ∀ xs, SqL K H a xs → xs[i]? = some x, fun i H => ∃ xs, SqL K H a xs ∧ xs.length ≤ i⟩
def Itt (K : PySem.W.Frag) (a : Addr) : It :=
  ⟨fun i H => ∃ xs x, SqT K H a xs ∧ xs[i]? = some x, fun i H x H' => H' = H ∧ ∀ xs, SqT K H a xs → xs[i]? = some x, fun i H => ∃ xs, SqT K H a xs ∧ xs.length ≤ i⟩
/-- lo, lo + 1, .. (n of them) -/
def Itr (lo : Int) (n : Nat) : It := ⟨fun i _ => i < n, fun i H x H' => H' = H ∧ x = .int (lo + i), fun i _ => n ≤ i⟩
theorem turn_list {P : Program} {w : World} {K : PySem.W.Frag} {tg : Expr} (a it : Addr) : Turn P w K tg (Itl K a) [it] it (fun i h => h.IsListIter it a i) where
  mem := by simp
  obj := fun i h st b hb => by
    have e : b = it := by simpa using hb
    subst e
    obtain ⟨o, e, c, d⟩ := st
    exact ⟨o, e, fun v z => by rw [d] at z; cases z⟩
  keep := fun i h h' st k => st.at fun o e => k it (by simp) o e
  item := by
    intro X hP hw hK hc i pins s σ H E I hf st hg
    subst hP hw hK
    obtain ⟨xs, x, hq, hx⟩ := hg
    obtain ⟨its, rv, p, hz⟩ := I.list hq
    obtain ⟨u, hu, ru⟩ := rv.get hx
    obtain ⟨f0, f1, f2, f3, f4, f5⟩ := hf it (by simp)
    refine wpAny_pyNext_list_item st p.isList (x := u) (by simpa using hu) fun h' st' sb => ?_
    have I1 : Inv X pins σ H { s with heap := h' } := I.turned (t' := s.toks) (fun b o hb e => (sb.2 b hb).trans e) f0 f1 f3 f4 f5
    obtain ⟨o, e, c, d⟩ := id st'
    exact ⟨u, rfl, go_of (s := { s with heap := h' }) e c d (by decide) ⟨x, H, I1, ru, ⟨rfl, fun ys hy => by rw [I.list_inj hy hq]; exact hx⟩, st', fun b hb => (hf b hb).1⟩⟩
  done := by
    intro X hP hw hK hc i pins s σ H E I hf st hg
    subst hP hw hK
    obtain ⟨xs, hq, hx⟩ := hg
    obtain ⟨its, rv, p, hz⟩ := I.list hq
    obtain ⟨f0, f1, f2, f3, f4, f5⟩ := hf it (by simp)
    have hl := rv.length
    exact wpAny_pyNext_list_end (I.ok.hd hc) st p.isList (by simp; omega) fun h' eb => ⟨rfl, I.turned (t' := s.toks) (fun b o hb e => eb b o hb e) f0 f1 f3 f4 f5⟩
  self := fun _ _ _ _ _ st h => wpAny_pyIter_listiter st h
theorem turn_tuple {P : Program} {w : World} {K : PySem.W.Frag} {tg : Expr} (a it : Addr) : Turn P w K tg (Itt K a) [it] it (fun i h => h.IsTupleIter it a i) where
  mem := by simp
  obj := fun i h st b hb => by
    have e : b = it := by simpa using hb
    subst e
    obtain ⟨o, e, c, d⟩ := st
    exact ⟨o, e, fun v z => by rw [d] at z; cases z⟩
  keep := fun i h h' st k => st.at fun o e => k it (by simp) o e
  item := by
    intro X hP hw hK hc i pins s σ H E I hf st hg
    subst hP hw hK
    obtain ⟨xs, x, hq, hx⟩ := hg
    obtain ⟨its, rv, p, hz⟩ := I.tuple hq
    obtain ⟨u, hu, ru⟩ := rv.get hx
    obtain ⟨f0, f1, f2, f3, f4, f5⟩ := hf it (by simp)
    refine wpAny_pyNext_tuple_item st (show s.heap.IsTuple a its.toArray from p) (x := u) (by simpa using hu) fun h' st' sb => ?_
    have I1 : Inv X pins σ H { s with heap := h' } := I.turned (t' := s.toks) (fun b o hb e => (sb.2 b hb).trans e) f0 f1 f3 f4 f5
    obtain ⟨o, e, c, d⟩ := id st'
    exact ⟨u, rfl, go_of (s := { s with heap := h' }) e c d (by decide) ⟨x, H, I1, ru, ⟨rfl, fun ys hy => by rw [I.tuple_inj hy hq]; exact hx⟩, st', fun b hb => (hf b hb).1⟩⟩
  done := by
    intro X hP hw hK hc i pins s σ H E I hf st hg
    subst hP hw hK
    obtain ⟨xs, hq, hx⟩ := hg
    obtain ⟨its, rv, p, hz⟩ := I.tuple hq
    obtain ⟨f0, f1, f2, f3, f4, f5⟩ := hf it (by simp)
    have hl := rv.length
    exact wpAny_pyNext_tuple_end (I.ok.hd hc) st (show s.heap.IsTuple a its.toArray from p) (by simp; omega) fun h' eb => ⟨rfl, I.turned (t' := s.toks) (fun b o hb e => eb b o hb e) f0 f1 f3 f4 f5⟩
  self := fun _ _ _ _ _ st h => wpAny_pyIter_tupleiter st h
theorem turn_range {P : Program} {w : World} {K : PySem.W.Frag} {tg : Expr} (it : Addr) (lo : Int) (n : Nat) : Turn P w K tg (Itr lo n) [it] it (fun i h => IsRangeIter h it (lo + (i : Nat) * 1) ((n : Int) - (i : Nat)) 1) where
  mem := by simp
  obj := fun i h st b hb => by
    have e : b = it := by simpa using hb
    subst e
    exact ⟨_, st, fun v z => by
      have z' : Data.fields _ = Data.cell v := z
      cases z'⟩
  keep := fun i h h' st k => k it (by simp) _ st
  item := by
    intro X hP hw hK hc i pins s σ H E I hf st hg
    subst hP hw hK
    obtain ⟨f0, f1, f2, f3, f4, f5⟩ := hf it (by simp)
    have W := Walks.range (prog := X.prog) (w := X.w) (I.ok.hd hc) it lo 1 n
    refine W.item i s _ _ hg st fun v h' tk hv st' kk => ?_
    obtain ⟨t, rfl⟩ := hv
    have I1 : Inv X pins σ H { s with heap := h', toks := tk } := I.turned (fun b o hb e => kk b o (by simpa using hb) e) f0 f1 f3 f4 f5
    refine ⟨_, rfl, go_of (s := { s with heap := h', toks := tk }) (n := "range_iterator") st' rfl rfl (by decide) ⟨.int (lo + i), H, I1, ⟨t, ?_⟩, ⟨rfl, rfl⟩, st', fun b hb => (hf b hb).1⟩⟩
    rw [Int.mul_one]
  done := by
    intro X hP hw hK hc i pins s σ H E I hf st hg
    subst hP hw hK
    obtain ⟨f0, f1, f2, f3, f4, f5⟩ := hf it (by simp)
    exact wpAny_pyNext_range_end (I.ok.hd hc) st (by have : n ≤ i := hg; omega) fun h' eb => ⟨rfl, I.turned (t' := s.toks) (fun b o hb e => eb b o hb e) f0 f1 f3 f4 f5⟩
  self := fun _ _ _ _ _ st h => wpAny_pyIter_rangeiter st h
end L2

namespace L2
open PySem PySem.Spec PyProof.Rows
section
variable {X : Cx} {tg : Expr}
def iList (K : PySem.W.Frag) (tl : TE) : TI := fun σ H R => tl σ H fun x H1 => ∃ a, x = .ref a ∧ (∃ xs, SqL K H1 a xs) ∧ R (Itl K a) H1
def iTup (K : PySem.W.Frag) (tl : TE) : TI := fun σ H R => tl σ H fun x H1 => ∃ a, x = .ref a ∧ (∃ xs, SqT K H1 a xs) ∧ R (Itt K a) H1
theorem pi_list {l : Expr} {tl : TE} (hl : PE X l tl) : PI X tg l (iList X.K tl) := by
  intro pins s σ H R I h
  refine thn (hl pins s σ H _ I h) fun v s1 ⟨x, H1, I1, r1, q1⟩ => ?_
  obtain ⟨a, e, ⟨xs, hq⟩, q⟩ := q1
  subst e
  cases r1
  obtain ⟨its, rv, p, hz⟩ := I1.list hq
  refine wpAny_pyIter_list p.isList ?_
  refine ⟨s1.heap.objs.size, [s1.heap.objs.size], _, _, H1, rfl, I1.kept (t' := s1.toks) fun b o e => Heap.get?_push_of_some _ e, turn_list a _, ⟨_, Heap.get?_push_size _ rfl, rfl, rfl⟩, fun b hb => ?_, q⟩
  have e : b = s1.heap.objs.size := by simpa using hb
  subst e
  exact I1.fpOk (Nat.le_refl _) (I1.hok.fresh (Nat.le_refl _))
theorem pi_tup {l : Expr} {tl : TE} (hl : PE X l tl) : PI X tg l (iTup X.K tl) := by
  intro pins s σ H R I h
  refine thn (hl pins s σ H _ I h) fun v s1 ⟨x, H1, I1, r1, q1⟩ => ?_
  obtain ⟨a, e, ⟨xs, hq⟩, q⟩ := q1
  subst e
  cases r1
  obtain ⟨its, rv, p, hz⟩ := I1.tuple hq
  refine wpAny_pyIter_tuple (show s1.heap.IsTuple a its.toArray from p) ?_
  refine ⟨s1.heap.objs.size, [s1.heap.objs.size], _, _, H1, rfl, I1.kept (t' := s1.toks) fun b o e => Heap.get?_push_of_some _ e, turn_tuple a _, ⟨_, Heap.get?_push_size _ rfl, rfl, rfl⟩, fun b hb => ?_, q⟩
  have e : b = s1.heap.objs.size := by simpa using hb
  subst e
  exact I1.fpOk (Nat.le_refl _) (I1.hok.fresh (Nat.le_refl _))
/-- a range object just made, walked -/
theorem range_it {pins : List (Addr × Obj)} {σ : St} {H : Hp} {s : Shared} {R : It → Hp → Prop} {E : Value → Shared → Prop} {lo hi : Int} {t u v : Tok} {tk : Nat} (I : Inv X pins σ H s) (h1 : -(2 ^ 62) ≤ lo) (h2 : lo < 2 ^ 62) (h3 : -(2 ^ 62) ≤ hi) (h4 : hi < 2 ^ 62)
    (q : R (Itr lo (hi - lo).toNat) H) : wpAny (model X.prog X.w) X.A (pyIter (.ref s.heap.objs.size)) (PIE X pins σ tg R) E { s with heap := s.heap.push { cls := .type "range", data := .fields #[.int lo t, .int hi u, .int 1 v] }, toks := tk } := by
  refine wpAny_pyIter_range (IsRange.new ..) (small_one h1 h2 h3 h4) ?_
  have I1 : Inv X pins σ H { s with heap := s.heap.push { cls := .type "range", data := .fields #[.int lo t, .int hi u, .int 1 v] }, toks := tk } := I.kept fun b o e => Heap.get?_push_of_some _ e
  refine ⟨(s.heap.push { cls := .type "range", data := .fields #[.int lo t, .int hi u, .int 1 v] }).objs.size, [(s.heap.push { cls := .type "range", data := .fields #[.int lo t, .int hi u, .int 1 v] }).objs.size], _, _, H, rfl,
    I1.kept (t' := tk) fun b o e => Heap.get?_push_of_some _ e, turn_range _ lo (hi - lo).toNat, ?_, fun b hb => ?_, q⟩
  · have e1 : lo + ((0 : Nat) : Int) * 1 = lo := by simp
    have e2 : (((hi - lo).toNat : Nat) : Int) - ((0 : Nat) : Int) = Builtin.Range.rangeSize lo hi 1 := by rw [rangeSize_one]; split <;> omega
    show IsRangeIter _ _ (lo + ((0 : Nat) : Int) * 1) ((((hi - lo).toNat : Nat) : Int) - ((0 : Nat) : Int)) 1
    rw [e1, e2]
    exact Heap.get?_push_size _ rfl
  · have e : b = (s.heap.push { cls := .type "range", data := .fields #[.int lo t, .int hi u, .int 1 v] }).objs.size := by simpa using hb
    subst e
    exact I1.fpOk (Nat.le_refl _) (I1.hok.fresh (Nat.le_refl _))
def iRng1 (ta : TA) : TI := fun σ H R => ta σ H fun vs H1 => ∃ j : Int, vs = [.int j] ∧ -(2 ^ 62) ≤ j ∧ j < 2 ^ 62 ∧ R (Itr 0 j.toNat) H1
def iRng2 (ta : TA) : TI := fun σ H R => ta σ H fun vs H1 => ∃ i j : Int, vs = [.int i, .int j] ∧ (-(2 ^ 62) ≤ i ∧ i < 2 ^ 62 ∧ -(2 ^ 62) ≤ j ∧ j < 2 ^ 62) ∧ R (Itr i (j - i).toNat) H1
theorem pi_range1 {a : Expr} {ta : TA} {p pos : Pos} (hg : Gl X "range") (hm : X.mg "range" = none) (ha : PA X [a] ta) (hs : starEach [a] X.env = [(false, eval a X.env)] := by rfl) : PI X tg (.Call (.Name "range" p) [a] [] pos) (iRng1 ta) := by
  intro pins s σ H R I h
  refine Call_ (ld_blt I hg hm boot_range (PyProof.Rows.callWith_type1 (thn (ha pos pins s σ H _ I h) fun us s1 ⟨vs, H1, I1, r1, q1⟩ => ?_) hs rfl))
  obtain ⟨j, e, q1, q2, q⟩ := q1
  subst e
  cases r1 with
  | cons r rr =>
    cases rr
    obtain ⟨t, rfl⟩ := r
    exact call_range_1 (range_it I1 (by omega) (by omega) q1 q2 (by simpa using q))
theorem pi_range2 {a b : Expr} {ta : TA} {p pos : Pos} (hg : Gl X "range") (hm : X.mg "range" = none) (ha : PA X [a, b] ta) (hs : starEach [a, b] X.env = [(false, eval a X.env), (false, eval b X.env)] := by rfl) (hs2 : starEach [b] X.env = [(false, eval b X.env)] := by rfl) :
    PI X tg (.Call (.Name "range" p) [a, b] [] pos) (iRng2 ta) := by
  intro pins s σ H R I h
  refine Call_ (ld_blt I hg hm boot_range (PyProof.Rows.callWith_type1 (thn (ha pos pins s σ H _ I h) fun us s1 ⟨vs, H1, I1, r1, q1⟩ => ?_) (by rw [hs, hs2]) (by rw [hs2]; rfl)))
  obtain ⟨i, j, e, ⟨q1, q2, q3, q4⟩, q⟩ := q1
  subst e
  cases r1 with
  | cons r rr =>
    cases rr with
    | cons r' rr =>
      cases rr
      obtain ⟨t, rfl⟩ := r
      obtain ⟨t', rfl⟩ := r'
      exact call_range_2 (range_it I1 q1 q2 q3 q4 q)

/-! ### for -/
/-- W: the invariant by the turn and a measure; N: what the body is to reach -/
def tFor (wi : TI) (g : TG) (tb : TS) : TS := fun D σ H => wi σ H fun J H1 => ∃ W : Nat → Nat → St → Hp → Prop, (∃ m, W 0 m σ H1) ∧ ∀ i m σ H, W i m σ H →
  (J.stop i H ∧ D.nx σ H) ∨ (J.go i H ∧ ∃ N : St → Hp → Prop, (∀ σ' H', N σ' H' → ∃ m', m' < m ∧ W (i + 1) m' σ' H') ∧ ∀ x H', J.yld i H x H' → g x σ H' fun σ2 H2 => tb { D with nx := N, ct := N, bk := D.nx } σ2 H2)
/-- the records at fp as they stand -/
def pinsAt (fp : List Addr) (h : Heap) : List (Addr × Obj) := fp.filterMap fun b => (h.get? b).map fun o => (b, o)
theorem mem_pinsAt {fp : List Addr} {h : Heap} {b : Addr} {o : Obj} (hb : b ∈ fp) (e : h.get? b = some o) : (b, o) ∈ pinsAt fp h := List.mem_filterMap.mpr ⟨b, hb, by rw [e]; rfl⟩
theorem of_pinsAt {fp : List Addr} {h : Heap} {p : Addr × Obj} (hp : p ∈ pinsAt fp h) : p.1 ∈ fp ∧ h.get? p.1 = some p.2 := by
  obtain ⟨b, hb, e⟩ := List.mem_filterMap.mp hp
  cases q : h.get? b with
  | none => rw [q] at e; cases e
  | some o =>
    rw [q] at e
    have e' : (b, o) = p := Option.some.inj e
    subst e'
    exact ⟨hb, q⟩
theorem Inv.pinned {pins : List (Addr × Obj)} {σ : St} {H : Hp} {s : Shared} {fp : List Addr} (I : Inv X pins σ H s) (hf : ∀ b ∈ fp, FpOk X pins H b) (ho : ∀ b ∈ fp, ∃ o, s.heap.get? b = some o ∧ ∀ v, o.data ≠ .cell v) : Inv X (pins ++ pinsAt fp s.heap) σ H s :=
  I.pins_of fun p hp => (List.mem_append.mp hp).elim (fun z => I.pin p (List.mem_append_right _ z)) fun z => by
    obtain ⟨hb, e⟩ := of_pinsAt z
    obtain ⟨f0, f1, f2, _⟩ := hf p.1 hb
    obtain ⟨o, e', d⟩ := ho p.1 hb
    rw [e] at e'; cases e'
    exact ⟨e, f0, f1, f2, d⟩
theorem Inv.unpinned {pins pl : List (Addr × Obj)} {σ : St} {H : Hp} {s : Shared} (I : Inv X (pins ++ pl) σ H s) : Inv X pins σ H s := I.pins_of fun p hp => I.pin p (List.mem_append_right _ (List.mem_append_left _ hp))
theorem ps_for {iter : Expr} {body : List Stmt} {wi : TI} {g : TG} {tb : TS} {pos : Pos} (hp : PassesOwn (model X.prog X.w) X.A X.env X.xe) (hc : X.calm = true) (hi : PI X tg iter wi) (hg : PG X tg g) (hb : PSs X body tb)
    (hs : ∀ x, foldedSetIterable iter X.env x = pure x := by intro _; rfl) : PS X (.For tg iter body [] pos) (tFor wi g tb) := by
  intro pins s σ H D I h
  refine wpAny_For (thn (hi pins s σ H _ I h) fun v s1 h1 => thn h1 fun itv s2 h2 => ?_) hs
  obtain ⟨it, fp, tn, J, H2, e, I2, T, st2, f2, W, ⟨m0, w0⟩, turn⟩ := h2
  subst e
  -- what stays true of the iterator's objects through the loop
  have stat : ∀ {H' : Hp}, (∀ b ∈ fp, H' b = none) → ∀ b ∈ fp, FpOk X pins H' b := fun hn b hb => ⟨hn b hb, (f2 b hb).2⟩
  refine codeAny_forLoop_any (fun n s' => ∃ i σ' H', Inv X pins σ' H' s' ∧ tn i s'.heap ∧ (∀ b ∈ fp, H' b = none) ∧ W i n σ' H') ?_ m0 ⟨0, σ, H2, I2, st2, fun b hb => (f2 b hb).1, w0⟩
  rintro n s3 ⟨i, σ3, H3, I3, st3, fr3, w3⟩
  rcases turn i n σ3 H3 w3 with ⟨stop, qn⟩ | ⟨go, N, hN, step⟩
  · refine wpAny_passesOwn hp (thn (T.done X rfl rfl rfl hc i pins s3 σ3 H3 X.xe I3 (stat fr3) st3 stop) fun r s4 ⟨hr, I4⟩ => ?_)
    subst hr
    exact wpAny_execs_nil ⟨σ3, H3, I4, qn⟩
  · refine wpAny_passesOwn hp (thn (T.item X rfl rfl rfl hc i pins s3 σ3 H3 X.xe I3 (stat fr3) st3 go) fun r s4 ⟨u, hr, h4⟩ => ?_)
    subst hr
    refine wpAny_passesOwn hp (thn h4 fun _ s5 ⟨x, H5, I5, r5, y5, st5, fr5⟩ => ?_)
    have I5' := I5.pinned (stat fr5) (T.obj _ _ st5)
    refine wpAny_passesOwn hp (thn (hg _ s5 σ3 H5 x u _ I5' r5 (step x H5 y5)) fun _ s6 ⟨σ6, H6, I6, q6⟩ => ?_)
    refine wpAny_passesOwn hp (thn (hb _ s6 σ6 H6 _ I6 q6) fun f s7 q7 => ?_)
    have again : ∀ {σ7 : St} {H7 : Hp}, Inv X (pins ++ pinsAt fp s5.heap) σ7 H7 s7 → N σ7 H7 → ∃ m, m < n ∧ ∃ i σ' H', Inv X pins σ' H' s7 ∧ tn i s7.heap ∧ (∀ b ∈ fp, H' b = none) ∧ W i m σ' H' := fun {σ7 H7} I7 n7 => by
      obtain ⟨m', hm, w7⟩ := hN σ7 H7 n7
      refine ⟨m', hm, i + 1, σ7, H7, I7.unpinned, T.keep _ _ _ st5 fun b hb o e => (I7.pin (b, o) (List.mem_append_right _ (List.mem_append_right _ (mem_pinsAt hb e)))).1, fun b hb => ?_, w7⟩
      obtain ⟨o, e, d⟩ := T.obj _ _ st5 b hb
      exact (I7.pin (b, o) (List.mem_append_right _ (List.mem_append_right _ (mem_pinsAt hb e)))).2.1
    cases f with
    | next => obtain ⟨σ7, H7, I7, n7⟩ := q7; exact again I7 n7
    | cont => obtain ⟨σ7, H7, I7, n7⟩ := q7; exact again I7 n7
    | brk => obtain ⟨σ7, H7, I7, q7⟩ := q7; exact ⟨σ7, H7, I7.unpinned, q7⟩
    | ret v => obtain ⟨x7, σ7, H7, I7, r7, q7⟩ := q7; exact ⟨x7, σ7, H7, I7.unpinned, r7, q7⟩
end

/-! ### the forms one uses -/
/-- over a list that the body leaves as it is -/
theorem for_list {K : PySem.W.Frag} {a : Addr} {xs : List V} {g : TG} {tb : TS} {D : Ends} {σ : St} {H : Hp} (Pv : Nat → St → Hp → Prop) (h0 : Pv 0 σ H) (hl : ∀ i σ H, i ≤ xs.length → Pv i σ H → SqL K H a xs)
    (hs : ∀ i x σ H, xs[i]? = some x → Pv i σ H → g x σ H fun σ2 H2 => tb { D with nx := Pv (i + 1), ct := Pv (i + 1), bk := D.nx } σ2 H2) (hd : ∀ σ H, Pv xs.length σ H → D.nx σ H) :
    ∃ W : Nat → Nat → St → Hp → Prop, (∃ m, W 0 m σ H) ∧ ∀ i m σ H, W i m σ H →
      ((Itl K a).stop i H ∧ D.nx σ H) ∨ ((Itl K a).go i H ∧ ∃ N : St → Hp → Prop, (∀ σ' H', N σ' H' → ∃ m', m' < m ∧ W (i + 1) m' σ' H') ∧ ∀ x H', (Itl K a).yld i H x H' → g x σ H' fun σ2 H2 => tb { D with nx := N, ct := N, bk := D.nx } σ2 H2) := by
  refine ⟨fun i m σ H => m = xs.length - i ∧ i ≤ xs.length ∧ Pv i σ H, ⟨xs.length, by simp, Nat.zero_le _, h0⟩, ?_⟩
  rintro i m σ H ⟨rfl, hi, p⟩
  have q := hl i σ H hi p
  by_cases hlt : i < xs.length
  · refine .inr ⟨⟨xs, xs[i], q, by simp [hlt]⟩, Pv (i + 1), fun σ' H' p' => ⟨xs.length - (i + 1), by omega, rfl, hlt, p'⟩, fun x H' y => ?_⟩
    obtain ⟨e, y⟩ := y
    subst e
    exact hs i x σ _ (y xs q) p
  · have e : i = xs.length := by omega
    subst e
    exact .inl ⟨⟨xs, q, Nat.le_refl _⟩, hd σ H p⟩
theorem for_tup {K : PySem.W.Frag} {a : Addr} {xs : List V} {g : TG} {tb : TS} {D : Ends} {σ : St} {H : Hp} (Pv : Nat → St → Hp → Prop) (h0 : Pv 0 σ H) (hl : ∀ i σ H, i ≤ xs.length → Pv i σ H → SqT K H a xs)
    (hs : ∀ i x σ H, xs[i]? = some x → Pv i σ H → g x σ H fun σ2 H2 => tb { D with nx := Pv (i + 1), ct := Pv (i + 1), bk := D.nx } σ2 H2) (hd : ∀ σ H, Pv xs.length σ H → D.nx σ H) :
    ∃ W : Nat → Nat → St → Hp → Prop, (∃ m, W 0 m σ H) ∧ ∀ i m σ H, W i m σ H →
      ((Itt K a).stop i H ∧ D.nx σ H) ∨ ((Itt K a).go i H ∧ ∃ N : St → Hp → Prop, (∀ σ' H', N σ' H' → ∃ m', m' < m ∧ W (i + 1) m' σ' H') ∧ ∀ x H', (Itt K a).yld i H x H' → g x σ H' fun σ2 H2 => tb { D with nx := N, ct := N, bk := D.nx } σ2 H2) := by
  refine ⟨fun i m σ H => m = xs.length - i ∧ i ≤ xs.length ∧ Pv i σ H, ⟨xs.length, by simp, Nat.zero_le _, h0⟩, ?_⟩
  rintro i m σ H ⟨rfl, hi, p⟩
  have q := hl i σ H hi p
  by_cases hlt : i < xs.length
  · refine .inr ⟨⟨xs, xs[i], q, by simp [hlt]⟩, Pv (i + 1), fun σ' H' p' => ⟨xs.length - (i + 1), by omega, rfl, hlt, p'⟩, fun x H' y => ?_⟩
    obtain ⟨e, y⟩ := y
    subst e
    exact hs i x σ _ (y xs q) p
  · have e : i = xs.length := by omega
    subst e
    exact .inl ⟨⟨xs, q, Nat.le_refl _⟩, hd σ H p⟩
theorem for_range {lo : Int} {n : Nat} {g : TG} {tb : TS} {D : Ends} {σ : St} {H : Hp} (Pv : Nat → St → Hp → Prop) (h0 : Pv 0 σ H)
    (hs : ∀ i σ H, i < n → Pv i σ H → g (.int (lo + i)) σ H fun σ2 H2 => tb { D with nx := Pv (i + 1), ct := Pv (i + 1), bk := D.nx } σ2 H2) (hd : ∀ σ H, Pv n σ H → D.nx σ H) :
    ∃ W : Nat → Nat → St → Hp → Prop, (∃ m, W 0 m σ H) ∧ ∀ i m σ H, W i m σ H →
      ((Itr lo n).stop i H ∧ D.nx σ H) ∨ ((Itr lo n).go i H ∧ ∃ N : St → Hp → Prop, (∀ σ' H', N σ' H' → ∃ m', m' < m ∧ W (i + 1) m' σ' H') ∧ ∀ x H', (Itr lo n).yld i H x H' → g x σ H' fun σ2 H2 => tb { D with nx := N, ct := N, bk := D.nx } σ2 H2) := by
  refine ⟨fun i m σ H => m = n - i ∧ i ≤ n ∧ Pv i σ H, ⟨n, by simp, Nat.zero_le _, h0⟩, ?_⟩
  rintro i m σ H ⟨rfl, hi, p⟩
  by_cases hlt : i < n
  · refine .inr ⟨hlt, Pv (i + 1), fun σ' H' p' => ⟨n - (i + 1), by omega, rfl, hlt, p'⟩, fun x H' y => ?_⟩
    obtain ⟨e, y⟩ := y
    subst e y
    exact hs i σ _ hlt p
  · have e : i = n := by omega
    subst e
    exact .inl ⟨Nat.le_refl _, hd σ H p⟩
/-- while, by a word and a measure of the state -/
theorem while_by {c : TT} {tb : TS} {D : Ends} {σ : St} {H : Hp} (Pv : St → Hp → Prop) (μ : St → Hp → Nat) (h0 : Pv σ H)
    (hs : ∀ σ H, Pv σ H → c σ H fun b H1 => if b = true then tb { D with nx := fun σ' H' => Pv σ' H' ∧ μ σ' H' < μ σ H, ct := fun σ' H' => Pv σ' H' ∧ μ σ' H' < μ σ H, bk := D.nx } σ H1 else D.nx σ H1)
    (mono : ∀ σ H Q Q', (∀ b H1, Q b H1 → Q' b H1) → c σ H Q → c σ H Q') : tWhile c tb D σ H := by
  refine ⟨fun m σ H => m = μ σ H ∧ Pv σ H, ⟨_, rfl, h0⟩, ?_⟩
  rintro m σ H ⟨rfl, p⟩
  refine mono σ H _ _ (fun b H1 q => ?_) (hs σ H p)
  cases b with
  | true => exact ⟨_, fun σ' H' ⟨p', l⟩ => ⟨_, l, rfl, p'⟩, q⟩
  | false => exact q
end L2

namespace L2
open PySem PySem.Spec PyProof.Rows

abbrev R2 := V → V → Hp → VK → Prop
/-- a two-place operation on values: f is binaryOp op, inplaceOp op or compareOp op -/
def OpR (X : Cx) (f : Value → Value → Sem Value) (r : R2) : Prop :=
  ∀ (pins : List (Addr × Obj)) (s : Shared) (σ : St) (H : Hp) (x y : V) (v u : Value) (Q : VK), Inv X pins σ H s → RelV x v → RelV y u → r x y H Q →
    wpAny (model X.prog X.w) X.A (f v u) (EP X pins σ Q) X.xe s
/-- a one-place operation -/
def UnR (X : Cx) (f : Value → Sem Value) (r : V → Hp → VK → Prop) : Prop :=
  ∀ (pins : List (Addr × Obj)) (s : Shared) (σ : St) (H : Hp) (x : V) (v : Value) (Q : VK), Inv X pins σ H s → RelV x v → r x H Q →
    wpAny (model X.prog X.w) X.A (f v) (EP X pins σ Q) X.xe s
/-- a call of a value that is known (a builtin, a type) with values -/
def CallR (X : Cx) (f : Value) (r : List V → Hp → VK → Prop) : Prop :=
  ∀ (pins : List (Addr × Obj)) (s : Shared) (σ : St) (H : Hp) (xs : List V) (us : List Value) (Q : VK), Inv X pins σ H s → Vals xs us → r xs H Q →
    wpAny (model X.prog X.w) X.A (call f us) (EP X pins σ Q) X.xe s
/-- a value's truth -/
def TruR (X : Cx) (r : V → Hp → (Bool → Hp → Prop) → Prop) : Prop :=
  ∀ (pins : List (Addr × Obj)) (s : Shared) (σ : St) (H : Hp) (x : V) (v : Value) (Q : Bool → Hp → Prop), Inv X pins σ H s → RelV x v → r x H Q →
    wpAny (model X.prog X.w) X.A (truthy v) (TP X pins σ Q) X.xe s

def tOp (r : R2) (ta tb : TE) : TE := fun σ H Q => ta σ H fun x H1 => tb σ H1 fun y H2 => r x y H2 Q
def tUn (r : V → Hp → VK → Prop) (ta : TE) : TE := fun σ H Q => ta σ H fun x H1 => r x H1 Q
/-- ints in, under C, and a value out -/
def rI (C : Int → Int → Prop) (g : Int → Int → V) : R2 := fun x y H Q => ∃ i j, x = .int i ∧ y = .int j ∧ C i j ∧ Q (g i j) H
def rI0 (g : Int → Int → V) : R2 := fun x y H Q => ∃ i j, x = .int i ∧ y = .int j ∧ Q (g i j) H
def rU (g : Int → V) : V → Hp → VK → Prop := fun x H Q => ∃ i, x = .int i ∧ Q (g i) H

section
variable {X : Cx} {a b c : Expr} {ta tb tc : TE} {pos : Pos}

theorem binT (ha : PE X a ta) (hb : PE X b tb) {pins : List (Addr × Obj)} {s : Shared} {σ : St} {H : Hp} {R : V → V → Hp → Prop} (I : Inv X pins σ H s)
    (h : ta σ H fun x H1 => tb σ H1 fun y H2 => R x y H2) {Q : Value → Shared → Prop} {f : Value → Value → Sem Value}
    (hf : ∀ v u s2 x y H2, Inv X pins σ H2 s2 → RelV x v → RelV y u → R x y H2 → wpAny (model X.prog X.w) X.A (f v u) Q X.xe s2) :
    wpAny (model X.prog X.w) X.A (eval a X.env) (fun v s₁ => wpAny (model X.prog X.w) X.A (eval b X.env) (fun u s₂ => wpAny (model X.prog X.w) X.A (f v u) Q X.xe s₂) X.xe s₁) X.xe s := by
  refine thn (ha pins s σ H _ I h) fun v s1 ⟨x, H1, I1, r1, q1⟩ => ?_
  refine thn (hb pins s1 σ H1 _ I1 q1) fun u s2 ⟨y, H2, I2, r2, q2⟩ => ?_
  exact hf v u s2 x y H2 I2 r1 r2 q2

theorem pe_op {op : Operator} {r : R2} (ho : OpR X (binaryOp op) r) (ha : PE X a ta) (hb : PE X b tb) : PE X (.BinOp a op b pos) (tOp r ta tb) := by
  intro pins s σ H Q I h
  exact wpAny_BinOp (binT ha hb I h fun v u s2 x y H2 I2 rx ry q => ho pins s2 σ H2 x y v u Q I2 rx ry q)
theorem pe_un {op : UnaryOp} {r : V → Hp → VK → Prop} (ho : UnR X (unaryOp op) r) (ha : PE X a ta) : PE X (.UnaryOp op a pos) (tUn r ta) := by
  intro pins s σ H Q I h
  exact UnaryOp_ (thn (ha pins s σ H _ I h) fun v s1 ⟨x, H1, I1, r1, q1⟩ => ho pins s1 σ H1 x v Q I1 r1 q1)
/-- a op= e at a name: the name's slot i -/
theorem augR {op : Operator} {r : R2} (ho : OpR X (inplaceOp op) r) {pins : List (Addr × Obj)} {s : Shared} {σ : St} {H : Hp} {x y : V} {v u : Value} {Q : VK} (I : Inv X pins σ H s)
    (rx : RelV x v) (ry : RelV y u) (q : r x y H Q) : wpAny (model X.prog X.w) X.A (inplaceOp op v u) (EP X pins σ Q) X.xe s := ho pins s σ H x y v u Q I rx ry q

/-! ### ints -/
theorem opI {f : Value → Value → Sem Value} {C : Int → Int → Prop} {g : Int → Int → Int}
    (rule : ∀ (i j : Int) (t u : Tok) (s : Shared) (Q : Value → Shared → Prop) (E : Value → Shared → Prop), C i j → Q (.int (g i j) s.toks) { s with toks := s.toks + 1 } → wpAny (model X.prog X.w) X.A (f (.int i t) (.int j u)) Q E s) :
    OpR X f (rI C fun i j => .int (g i j)) := by
  intro pins s σ H x y v u Q I rx ry h
  obtain ⟨i, j, rfl, rfl, hc, q⟩ := h
  obtain ⟨t, rfl⟩ := rx
  obtain ⟨t', rfl⟩ := ry
  exact rule i j t t' s _ _ hc ⟨.int (g i j), H, I.tok _, ⟨_, rfl⟩, q⟩
theorem opI0 {f : Value → Value → Sem Value} {g : Int → Int → Int}
    (rule : ∀ (i j : Int) (t u : Tok) (s : Shared) (Q : Value → Shared → Prop) (E : Value → Shared → Prop), Q (.int (g i j) s.toks) { s with toks := s.toks + 1 } → wpAny (model X.prog X.w) X.A (f (.int i t) (.int j u)) Q E s) :
    OpR X f (rI0 fun i j => .int (g i j)) := by
  intro pins s σ H x y v u Q I rx ry h
  obtain ⟨i, j, rfl, rfl, q⟩ := h
  obtain ⟨t, rfl⟩ := rx
  obtain ⟨t', rfl⟩ := ry
  exact rule i j t t' s _ _ ⟨.int (g i j), H, I.tok _, ⟨_, rfl⟩, q⟩
theorem opB0 {f : Value → Value → Sem Value} {g : Int → Int → Bool}
    (rule : ∀ (i j : Int) (t u : Tok) (s : Shared) (Q : Value → Shared → Prop) (E : Value → Shared → Prop), Q (.bool (g i j)) s → wpAny (model X.prog X.w) X.A (f (.int i t) (.int j u)) Q E s) :
    OpR X f (rI0 fun i j => .bl (g i j)) := by
  intro pins s σ H x y v u Q I rx ry h
  obtain ⟨i, j, rfl, rfl, q⟩ := h
  obtain ⟨t, rfl⟩ := rx
  obtain ⟨t', rfl⟩ := ry
  exact rule i j t t' s _ _ ⟨.bl (g i j), H, I, rfl, q⟩

def CDiv (i j : Int) : Prop := 0 < j ∧ j < 1073741824
def CDivN (i j : Int) : Prop := j ≠ 0 ∧ j.natAbs < 1073741824
def CPow (i j : Int) : Prop := 0 ≤ j ∧ j ≤ 1000000 ∧ i.natAbs < 2 ^ 64
def CMul (i j : Int) : Prop := (-(2 ^ 64) < i ∧ i < 2 ^ 64) ∨ (-(2 ^ 64) < j ∧ j < 2 ^ 64)
theorem CMul.ok {i j : Int} (h : CMul i j) : IntMulOk i j := by
  rcases h with ⟨h1, h2⟩ | ⟨h1, h2⟩
  · exact .of_left (intBits_le_64 h1 h2)
  · exact .of_right (intBits_le_64 h1 h2)
theorem two_pow_nn (k : Nat) : (0 : Int) ≤ 2 ^ k := by
  rw [two_pow_cast]
  exact Int.natCast_nonneg _

theorem op_add : OpR X (binaryOp .Add) (rI0 fun i j => .int (i + j)) := opI0 fun _ _ _ _ _ _ _ q => add_int q
theorem op_sub : OpR X (binaryOp .Sub) (rI0 fun i j => .int (i - j)) := opI0 fun _ _ _ _ _ _ _ q => sub_int q
theorem op_mul : OpR X (binaryOp .Mult) (rI CMul fun i j => .int (i * j)) := opI fun _ _ _ _ _ _ _ hc q => mul_int q hc.ok
/-- // by a positive divisor -/
theorem op_fdiv : OpR X (binaryOp .FloorDiv) (rI CDiv fun i j => .int (i / j)) := opI fun i j _ _ _ _ _ hc q => by
  have h1 : (0 : Int) < j := hc.1
  have h2 : j < 1073741824 := hc.2
  exact floordiv_int (by omega) (by rw [Int.fdiv_eq_ediv_of_nonneg i (by omega)]; exact q) (.inl (PyProof.noPylong_small (by omega)))
theorem op_fdivN : OpR X (binaryOp .FloorDiv) (rI CDivN fun i j => .int (i.fdiv j)) := opI fun _ _ _ _ _ _ _ hc q => floordiv_int hc.1 q (.inl (PyProof.noPylong_small hc.2))
/-- % by a positive divisor of any size -/
theorem op_mod : OpR X (binaryOp .Mod) (rI (fun _ j => 0 < j) fun i j => .int (i % j)) := opI fun i j _ _ _ _ _ hc q => by
  have h1 : (0 : Int) < j := hc
  exact mod_int' (by omega) (by rw [Int.fmod_eq_emod_of_nonneg i (by omega)]; exact q)
theorem op_modN : OpR X (binaryOp .Mod) (rI (fun _ j => j ≠ 0) fun i j => .int (i.fmod j)) := opI fun _ _ _ _ _ _ _ hc q => mod_int' hc q
theorem op_pow : OpR X (binaryOp .Pow) (rI CPow fun i j => .int (i ^ j.toNat)) := opI fun _ _ _ _ _ _ _ hc q => pow_int_small hc.1 hc.2.1 hc.2.2 q
theorem op_shl : OpR X (binaryOp .LShift) (rI CPow fun i j => .int (i * 2 ^ j.toNat)) := opI fun _ _ _ _ _ _ _ hc q => lshift_int_small hc.1 hc.2.1 hc.2.2 q
theorem op_shr : OpR X (binaryOp .RShift) (rI (fun _ j => 0 ≤ j) fun i j => .int (i / 2 ^ j.toNat)) := opI fun i j _ _ _ _ _ hc q =>
  rshift_int hc (by rw [Int.fdiv_eq_ediv_of_nonneg i (two_pow_nn _)]; exact q)
theorem op_and : OpR X (binaryOp .BitAnd) (rI0 fun i j => .int (Builtin.bitAnd i j)) := opI0 fun _ _ _ _ _ _ _ q => and_int q
theorem op_or : OpR X (binaryOp .BitOr) (rI0 fun i j => .int (Builtin.bitOr i j)) := opI0 fun _ _ _ _ _ _ _ q => or_int q
theorem op_xor : OpR X (binaryOp .BitXor) (rI0 fun i j => .int (Builtin.bitXor i j)) := opI0 fun _ _ _ _ _ _ _ q => xor_int q

theorem iop_add : OpR X (inplaceOp .Add) (rI0 fun i j => .int (i + j)) := opI0 fun _ _ _ _ _ _ _ q => iadd_int q
theorem iop_sub : OpR X (inplaceOp .Sub) (rI0 fun i j => .int (i - j)) := opI0 fun _ _ _ _ _ _ _ q => isub_int q
theorem iop_mul : OpR X (inplaceOp .Mult) (rI CMul fun i j => .int (i * j)) := opI fun _ _ _ _ _ _ _ hc q => imul_int q hc.ok
theorem iop_fdiv : OpR X (inplaceOp .FloorDiv) (rI CDiv fun i j => .int (i / j)) := opI fun i j _ _ _ _ _ hc q => by
  have h1 : (0 : Int) < j := hc.1
  have h2 : j < 1073741824 := hc.2
  exact ifloordiv_int (by omega) (by rw [Int.fdiv_eq_ediv_of_nonneg i (by omega)]; exact q) (.inl (PyProof.noPylong_small (by omega)))
theorem iop_mod : OpR X (inplaceOp .Mod) (rI (fun _ j => 0 < j) fun i j => .int (i % j)) := opI fun i j _ _ _ _ _ hc q => by
  have h1 : (0 : Int) < j := hc
  exact imod_int (by omega) (by rw [Int.fmod_eq_emod_of_nonneg i (by omega)]; exact q)
theorem iop_shl : OpR X (inplaceOp .LShift) (rI CPow fun i j => .int (i * 2 ^ j.toNat)) := opI fun _ _ _ _ _ _ _ hc q => ilshift_int_small hc.1 hc.2.1 hc.2.2 q
theorem iop_shr : OpR X (inplaceOp .RShift) (rI (fun _ j => 0 ≤ j) fun i j => .int (i / 2 ^ j.toNat)) := opI fun i j _ _ _ _ _ hc q =>
  irshift_int hc (by rw [Int.fdiv_eq_ediv_of_nonneg i (two_pow_nn _)]; exact q)
theorem iop_and : OpR X (inplaceOp .BitAnd) (rI0 fun i j => .int (Builtin.bitAnd i j)) := opI0 fun _ _ _ _ _ _ _ q => iand_int q
theorem iop_or : OpR X (inplaceOp .BitOr) (rI0 fun i j => .int (Builtin.bitOr i j)) := opI0 fun _ _ _ _ _ _ _ q => ior_int q
theorem iop_xor : OpR X (inplaceOp .BitXor) (rI0 fun i j => .int (Builtin.bitXor i j)) := opI0 fun _ _ _ _ _ _ _ q => ixor_int q

theorem unI {f : Value → Sem Value} {g : Int → Int}
    (rule : ∀ (i : Int) (t : Tok) (s : Shared) (Q : Value → Shared → Prop) (E : Value → Shared → Prop), Q (.int (g i) s.toks) { s with toks := s.toks + 1 } → wpAny (model X.prog X.w) X.A (f (.int i t)) Q E s) :
    UnR X f (rU fun i => .int (g i)) := by
  intro pins s σ H x v Q I rx h
  obtain ⟨i, rfl, q⟩ := h
  obtain ⟨t, rfl⟩ := rx
  exact rule i t s _ _ ⟨.int (g i), H, I.tok _, ⟨_, rfl⟩, q⟩
theorem un_neg : UnR X (unaryOp .USub) (rU fun i => .int (-i)) := unI fun _ _ _ _ _ q => neg_int q
theorem un_inv : UnR X (unaryOp .Invert) (rU fun i => .int (Builtin.bitNot i)) := unI fun _ _ _ _ _ q => invert_int q

/-! ### bools among ints: n += (a < b) -/
theorem op_add_ib : OpR X (binaryOp .Add) (fun x y H Q => ∃ i k, x = .int i ∧ y = .bl k ∧ Q (.int (i + b2i k)) H) := by
  intro pins s σ H x y v u Q I rx ry h
  obtain ⟨i, k, rfl, rfl, q⟩ := h
  obtain ⟨t, rfl⟩ := rx
  cases ry
  exact add_int_bool ⟨.int (i + b2i k), H, I.tok _, ⟨_, rfl⟩, q⟩
end

/-! ### comparisons -/
/-- the scalars that == tells apart as data does -/
def scal : V → V → Bool
  | .non, .non => true | .non, .int _ => true | .int _, .non => true | .non, .bl _ => true | .bl _, .non => true | .non, .str _ => true | .str _, .non => true
  | .int _, .int _ => true | .bl _, .bl _ => true | .str _, .str _ => true | .byt _, .byt _ => true
  | .int _, .str _ => true | .str _, .int _ => true | .bl _, .str _ => true | .str _, .bl _ => true
  | _, _ => false
def rEq : R2 := fun x y H Q => scal x y = true ∧ Q (.bl (decide (x = y))) H
def rNe : R2 := fun x y H Q => scal x y = true ∧ Q (.bl (!decide (x = y))) H

theorem dec_int {i j : Int} : decide (V.int i = V.int j) = (i == j) := by
  rw [Bool.eq_iff_iff]
  simp
theorem dec_bl {i j : Bool} : decide (V.bl i = V.bl j) = (i == j) := by
  rw [Bool.eq_iff_iff]
  simp
theorem dec_str {i j : Str} : decide (V.str i = V.str j) = (i == j) := by
  rw [Bool.eq_iff_iff]
  simp
theorem dec_byt {i j : Array UInt8} : decide (V.byt i = V.byt j) = (i.toList == j.toList) := by
  rw [Bool.eq_iff_iff]
  cases i
  cases j
  simp

section
variable {X : Cx} {a b c : Expr} {ta tb tc : TE} {pos : Pos}
theorem fin_bl {pins : List (Addr × Obj)} {σ : St} {H : Hp} {s : Shared} {Q : VK} {k k' : Bool} (I : Inv X pins σ H s) (q : Q (.bl k) H) (e : k = k') : EP X pins σ Q (.bool k') s := by
  subst e
  exact ⟨.bl k, H, I, rfl, q⟩
theorem op_eq : OpR X (compareOp .Eq) rEq := by
  intro pins s σ H x y v u Q I rx ry h
  obtain ⟨hs, q⟩ := h
  cases x with
  | non =>
    cases rx
    cases y with
    | non => cases ry; exact PySem.EqNone.eq_none_none (fin_bl I q (by simp))
    | bl j => cases ry; exact PySem.EqNone.eq_none_bool (fin_bl I q (by simp))
    | int j => obtain ⟨t', rfl⟩ := ry; exact PySem.EqNone.eq_none_int (fin_bl I q (by simp))
    | str j => obtain ⟨t', rfl⟩ := ry; exact PySem.EqNone.eq_none_str (fin_bl I q (by simp))
    | _ => exact absurd (show false = true from hs) Bool.false_ne_true
  | bl i =>
    cases rx
    cases y with
    | non => cases ry; exact PySem.EqNone.eq_bool_none (fin_bl I q (by simp))
    | bl j => cases ry; exact eq_bool (fin_bl I q dec_bl)
    | str j => obtain ⟨t', rfl⟩ := ry; exact PySem.EqMixed.eq_bool_str (fin_bl I q (by simp))
    | _ => exact absurd (show false = true from hs) Bool.false_ne_true
  | int i =>
    obtain ⟨t, rfl⟩ := rx
    cases y with
    | non => cases ry; exact PySem.EqNone.eq_int_none (fin_bl I q (by simp))
    | int j => obtain ⟨t', rfl⟩ := ry; exact eq_int (fin_bl I q dec_int)
    | str j => obtain ⟨t', rfl⟩ := ry; exact PySem.EqMixed.eq_int_str (fin_bl I q (by simp))
    | _ => exact absurd (show false = true from hs) Bool.false_ne_true
  | str i =>
    obtain ⟨t, rfl⟩ := rx
    cases y with
    | non => cases ry; exact PySem.EqNone.eq_str_none (fin_bl I q (by simp))
    | bl j => cases ry; exact PySem.EqMixed.eq_str_bool (fin_bl I q (by simp))
    | int j => obtain ⟨t', rfl⟩ := ry; exact PySem.EqMixed.eq_str_int (fin_bl I q (by simp))
    | str j => obtain ⟨t', rfl⟩ := ry; exact eq_str (fin_bl I q dec_str)
    | _ => exact absurd (show false = true from hs) Bool.false_ne_true
  | byt i =>
    obtain ⟨t, rfl⟩ := rx
    cases y with
    | byt j => obtain ⟨t', rfl⟩ := ry; exact PySem.W.eq_bytes (fin_bl I q dec_byt)
    | _ => exact absurd (show false = true from hs) Bool.false_ne_true
  | _ => cases y <;> exact absurd (show false = true from hs) Bool.false_ne_true
theorem op_ne : OpR X (compareOp .NotEq) rNe := by
  intro pins s σ H x y v u Q I rx ry h
  obtain ⟨hs, q⟩ := h
  cases x with
  | non =>
    cases rx
    cases y with
    | non => cases ry; exact PySem.EqNone.ne_none_none (fin_bl I q (by simp))
    | bl j => cases ry; exact PySem.EqNone.ne_none_bool (fin_bl I q (by simp))
    | int j => obtain ⟨t', rfl⟩ := ry; exact PySem.EqNone.ne_none_int (fin_bl I q (by simp))
    | str j => obtain ⟨t', rfl⟩ := ry; exact PySem.EqNone.ne_none_str (fin_bl I q (by simp))
    | _ => exact absurd (show false = true from hs) Bool.false_ne_true
  | bl i =>
    cases rx
    cases y with
    | non => cases ry; exact PySem.EqNone.ne_bool_none (fin_bl I q (by simp))
    | bl j => cases ry; exact ne_bool (fin_bl I q (congrArg not dec_bl))
    | str j => obtain ⟨t', rfl⟩ := ry; exact PySem.EqMixed.ne_bool_str (fin_bl I q (by simp))
    | _ => exact absurd (show false = true from hs) Bool.false_ne_true
  | int i =>
    obtain ⟨t, rfl⟩ := rx
    cases y with
    | non => cases ry; exact PySem.EqNone.ne_int_none (fin_bl I q (by simp))
    | int j => obtain ⟨t', rfl⟩ := ry; exact ne_int (fin_bl I q (congrArg not dec_int))
    | str j => obtain ⟨t', rfl⟩ := ry; exact PySem.EqMixed.ne_int_str (fin_bl I q (by simp))
    | _ => exact absurd (show false = true from hs) Bool.false_ne_true
  | str i =>
    obtain ⟨t, rfl⟩ := rx
    cases y with
    | non => cases ry; exact PySem.EqNone.ne_str_none (fin_bl I q (by simp))
    | bl j => cases ry; exact PySem.EqMixed.ne_str_bool (fin_bl I q (by simp))
    | int j => obtain ⟨t', rfl⟩ := ry; exact PySem.EqMixed.ne_str_int (fin_bl I q (by simp))
    | str j => obtain ⟨t', rfl⟩ := ry; exact ne_str (fin_bl I q (congrArg not dec_str))
    | _ => exact absurd (show false = true from hs) Bool.false_ne_true
  | byt i =>
    obtain ⟨t, rfl⟩ := rx
    cases y with
    | byt j => obtain ⟨t', rfl⟩ := ry; exact PySem.W.ne_bytes (fin_bl I q (congrArg not dec_byt))
    | _ => exact absurd (show false = true from hs) Bool.false_ne_true
  | _ => cases y <;> exact absurd (show false = true from hs) Bool.false_ne_true

theorem op_lt : OpR X (compareOp .Lt) (rI0 fun i j => .bl (decide (i < j))) := opB0 fun _ _ _ _ _ _ _ q => lt_int q
theorem op_le : OpR X (compareOp .LtE) (rI0 fun i j => .bl (decide (i ≤ j))) := opB0 fun _ _ _ _ _ _ _ q => le_int q
theorem op_gt : OpR X (compareOp .Gt) (rI0 fun i j => .bl (decide (j < i))) := opB0 fun _ _ _ _ _ _ _ q => gt_int q
theorem op_ge : OpR X (compareOp .GtE) (rI0 fun i j => .bl (decide (j ≤ i))) := opB0 fun _ _ _ _ _ _ _ q => ge_int q
theorem op_lt_str : OpR X (compareOp .Lt) (fun x y H Q => ∃ i j, x = .str i ∧ y = .str j ∧ Q (.bl (decide (i.cps.toList < j.cps.toList))) H) := by
  intro pins s σ H x y v u Q I rx ry h
  obtain ⟨i, j, rfl, rfl, q⟩ := h
  obtain ⟨t, rfl⟩ := rx
  obtain ⟨t', rfl⟩ := ry
  exact lt_str (fin_bl I q rfl)
/-- the one string within the other -/
theorem op_in_str : OpR X (compareOp .In) (fun x y H Q => ∃ i j, x = .str i ∧ y = .str j ∧ Q (.bl (!(Builtin.Str.occurrences j i 0 j.length 1).isEmpty)) H) := by
  intro pins s σ H x y v u Q I rx ry h
  obtain ⟨i, j, rfl, rfl, q⟩ := h
  obtain ⟨t, rfl⟩ := rx
  obtain ⟨t', rfl⟩ := ry
  exact in_str (fin_bl I q rfl)

/-- is None, is not None: the right side a value none -/
theorem op_isN : OpR X (compareOp .Is) (fun x y H Q => y = .non ∧ Q (.bl (decide (x = .non))) H) := by
  intro pins s σ H x y v u Q I rx ry h
  obtain ⟨rfl, q⟩ := h
  cases ry
  refine is_none_gen (fin_bl I q ?_)
  cases x <;> first
    | (cases rx; rfl)
    | (obtain ⟨t, rfl⟩ := rx; rfl)
theorem op_notN : OpR X (compareOp .IsNot) (fun x y H Q => y = .non ∧ Q (.bl (!decide (x = .non))) H) := by
  intro pins s σ H x y v u Q I rx ry h
  obtain ⟨rfl, q⟩ := h
  cases ry
  refine isnot_none_gen (fin_bl I q ?_)
  cases x <;> first
    | (cases rx; rfl)
    | (obtain ⟨t, rfl⟩ := rx; rfl)

theorem op_notin_str : OpR X (compareOp .NotIn) (fun x y H Q => ∃ i j, x = .str i ∧ y = .str j ∧ Q (.bl (!(!(Builtin.Str.occurrences j i 0 j.length 1).isEmpty))) H) := by
  intro pins s σ H x y v u Q I rx ry h
  obtain ⟨i, j, rfl, rfl, q⟩ := h
  obtain ⟨t, rfl⟩ := rx
  obtain ⟨t', rfl⟩ := ry
  exact notIn_str (fin_bl I q rfl)
/-- is, is not of two objects that are tracked lists or instances -/
def isObj : HO → Bool
  | .lst _ => true
  | .ins _ _ _ => true
  | _ => false
theorem obj_there {pins : List (Addr × Obj)} {s : Shared} {σ : St} {H : Hp} {a : Addr} {o : HO} (I : Inv X pins σ H s) (h : H a = some o) (p : isObj o = true) : ∃ ob, s.heap.get? a = some ob ∧ ob.cls ≠ .type "tuple" := by
  cases o with
  | lst xs =>
    obtain ⟨_, its, n, _, e⟩ : xs.length ≤ sizeLine ∧ ∃ (its : List Value) (n : Nat), Vals xs its ∧ s.heap.get? a = some { cls := .type "list", data := .seq its.toArray n } := I.hok a _ h
    exact ⟨_, e, (by show Value.type "list" ≠ .type "tuple"; decide +kernel)⟩
  | ins C dx fs =>
    have x := I.hok a _ h
    obtain ⟨_, _, _, e, _⟩ := x
    exact ⟨_, e, (by show Value.ref C ≠ .type "tuple"; exact fun z => by cases z)⟩
  | _ => exact absurd (show false = true from p) Bool.false_ne_true
theorem op_is_ref : OpR X (compareOp .Is) (fun x y H Q => ∃ a b oa ob, x = .ref a ∧ y = .ref b ∧ H a = some oa ∧ isObj oa = true ∧ H b = some ob ∧ isObj ob = true ∧ Q (.bl (decide (a = b))) H) := by
  intro pins s σ H x y v u Q I rx ry h
  obtain ⟨a, b, oa, ob, rfl, rfl, ha, pa, hb, pb, q⟩ := h
  cases rx
  cases ry
  obtain ⟨o1, e1, n1⟩ := obj_there I ha pa
  obtain ⟨o2, e2, _⟩ := obj_there I hb pb
  by_cases z : a = b
  · subst z
    exact wpAny_is_ref_self (fin_bl I q (by simp))
  · exact wpAny_is_ref_other z e1 e2 n1 (fin_bl I q (by simp [z]))
theorem op_isnot_ref : OpR X (compareOp .IsNot) (fun x y H Q => ∃ a b oa ob, x = .ref a ∧ y = .ref b ∧ H a = some oa ∧ isObj oa = true ∧ H b = some ob ∧ isObj ob = true ∧ Q (.bl (!decide (a = b))) H) := by
  intro pins s σ H x y v u Q I rx ry h
  obtain ⟨a, b, oa, ob, rfl, rfl, ha, pa, hb, pb, q⟩ := h
  cases rx
  cases ry
  obtain ⟨o1, e1, n1⟩ := obj_there I ha pa
  obtain ⟨o2, e2, _⟩ := obj_there I hb pb
  by_cases z : a = b
  · subst z
    exact wpAny_isNot_ref_self (fin_bl I q (by simp))
  · exact wpAny_isNot_ref_other z e1 e2 n1 (fin_bl I q (by simp [z]))

/-- two rules for one operation: by cases -/
theorem OpR.or {f : Value → Value → Sem Value} {r r' : R2} (h : OpR X f r) (h' : OpR X f r') : OpR X f (fun x y H Q => r x y H Q ∨ r' x y H Q) := by
  intro pins s σ H x y v u Q I rx ry q
  rcases q with q | q
  · exact h pins s σ H x y v u Q I rx ry q
  · exact h' pins s σ H x y v u Q I rx ry q

theorem nomark (b : Expr) {op : CmpOp} (h : op ≠ .In := by decide) (h2 : op ≠ .NotIn := by decide) : behindInMarks op b = false := by
  have e1 : (op == CmpOp.In) = false := by cases op <;> first | rfl | exact absurd rfl h
  have e2 : (op == CmpOp.NotIn) = false := by cases op <;> first | rfl | exact absurd rfl h2
  cases b <;> simp [behindInMarks, e1, e2]
/-- a comparison as a value; hm: nomark b, or (for in, not in) by with_unfolding_all rfl -/
theorem pe_cmpR {op : CmpOp} {r : R2} (ho : OpR X (compareOp op) r) (ha : PE X a ta) (hb : PE X b tb) (hm : behindInMarks op b = false) : PE X (.Compare a [op] [b] pos) (tOp r ta tb) := by
  intro pins s σ H Q I h
  exact wpAny_Compare1 (binT ha hb I h fun v u s2 x y H2 I2 rx ry q => ho pins s2 σ H2 x y v u Q I2 rx ry q) hm
/-- a reading of a value as a test -/
def tTest (t : TE) : TT := fun σ H Q => t σ H fun x H' => ∃ k, x = .bl k ∧ Q k H'
theorem pt_cmpR {op : CmpOp} {r : R2} (ho : OpR X (compareOp op) r) (ha : PE X a ta) (hb : PE X b tb) (hm : behindInMarks op b = false) : PT X (.Compare a [op] [b] pos) (tTest (tOp r ta tb)) := by
  intro pins s σ H Q I h
  refine wpAny_isTrue_Compare1 (thn (ha pins s σ H _ I h) fun v s1 ⟨x, H1, I1, r1, q1⟩ => thn (hb pins s1 σ H1 _ I1 q1) fun u s2 ⟨y, H2, I2, r2, q2⟩ =>
    thn (ho pins s2 σ H2 x y v u _ I2 r1 r2 q2) fun c s3 ⟨z, H3, I3, r3, k, e, q3⟩ => ?_) hm
  subst e
  cases r3
  exact wpAny_truthy_bool ⟨H3, I3, q3⟩
/-- a op1 b op2 c -/
def tChain (r r' : R2) (ta tb tc : TE) : TE := fun σ H Q => ta σ H fun x H1 => tb σ H1 fun y H2 => r x y H2 fun z H3 => ∃ k, z = .bl k ∧
  (if k = true then tc σ H3 fun w' H4 => r' y w' H4 Q else Q (.bl false) H3)
theorem pe_chain {op op' : CmpOp} {r r' : R2} (ho : OpR X (compareOp op) r) (ho' : OpR X (compareOp op') r') (ha : PE X a ta) (hb : PE X b tb) (hc : PE X c tc)
    (hm : lastMarks [op, op'] [b, c] = false := by with_unfolding_all rfl) : PE X (.Compare a [op, op'] [b, c] pos) (tChain r r' ta tb tc) := by
  intro pins s σ H Q I h
  refine Compare_chain (thn (ha pins s σ H _ I h) fun v s1 ⟨x, H1, I1, r1, q1⟩ => chain_link (thn (hb pins s1 σ H1 _ I1 q1) fun u s2 ⟨y, H2, I2, r2, q2⟩ =>
    thn (ho pins s2 σ H2 x y v u _ I2 r1 r2 q2) fun d s3 ⟨z, H3, I3, r3, k, e, q3⟩ => ?_)) hm
  subst e
  cases r3
  refine wpAny_truthy_bool ?_
  cases k with
  | false => exact ite_ff ⟨.bl false, H3, I3, rfl, q3⟩
  | true => exact ite_tt (chain_last (thn (hc pins s3 σ H3 _ I3 q3) fun w' s4 ⟨z', H4, I4, r4, q4⟩ => ho' pins s4 σ H4 y z' u w' Q I4 r2 r4 q4))
theorem pt_chain {op op' : CmpOp} {r r' : R2} (ho : OpR X (compareOp op) r) (ho' : OpR X (compareOp op') r') (ha : PE X a ta) (hb : PE X b tb) (hc : PE X c tc)
    (hm : lastMarks [op, op'] [b, c] = false := by with_unfolding_all rfl) : PT X (.Compare a [op, op'] [b, c] pos) (tTest (tChain r r' ta tb tc)) := by
  intro pins s σ H Q I h
  refine isTrue_chain (thn (ha pins s σ H _ I h) fun v s1 ⟨x, H1, I1, r1, q1⟩ => test_link (thn (hb pins s1 σ H1 _ I1 q1) fun u s2 ⟨y, H2, I2, r2, q2⟩ =>
    thn (ho pins s2 σ H2 x y v u _ I2 r1 r2 q2) fun d s3 ⟨z, H3, I3, r3, k, e, q3⟩ => ?_)) hm
  subst e
  cases r3
  refine wpAny_truthy_bool ?_
  cases k with
  | false =>
    obtain ⟨k', e', q'⟩ := q3
    cases e'
    exact ite_ff ⟨H3, I3, q'⟩
  | true =>
    refine ite_tt (test_last (thn (hc pins s3 σ H3 _ I3 q3) fun w' s4 ⟨z', H4, I4, r4, q4⟩ => thn (ho' pins s4 σ H4 y z' u w' _ I4 r2 r4 q4) fun d' s5 ⟨z2, H5, I5, r5, k2, e2, q5⟩ => ?_))
    subst e2
    cases r5
    exact wpAny_truthy_bool ⟨H5, I5, q5⟩

/-! ### truth -/
/-- a value's truth by the abstract heap -/
def TruV (K : PySem.W.Frag) (x : V) (H : Hp) (k : Bool) : Prop :=
  match x with
  | .non => k = false
  | .bl b => k = b
  | .int i => k = (i != 0)
  | .str y => y.length ≤ sizeLine ∧ k = ((y.length : Int) != 0)
  | .byt y => y.size ≤ sizeLine ∧ k = ((y.size : Int) != 0)
  | .ref p => (∃ xs, SqL K H p xs ∧ k = !xs.isEmpty) ∨ (∃ xs, SqT K H p xs ∧ k = !xs.isEmpty) ∨ ∃ kvs, H p = some (.dK kvs) ∧ k = !kvs.isEmpty
  | _ => False
theorem isEmpty_kv {κ : Type} {kvs : List (κ × V)} {vs : List (κ × Value)} (r : KV kvs vs) : (!vs.isEmpty) = !kvs.isEmpty := by
  cases r <;> rfl
theorem isEmpty_of {xs : List V} {its : List Value} (r : Vals xs its) : (!its.toArray.isEmpty) = !xs.isEmpty := by
  cases r <;> simp
theorem line63 : (sizeLine : Nat) < 2 ^ 63 := by rw [sizeLine_eq]; decide
theorem tru_ok : TruR X (fun x H Q => ∃ k, TruV X.K x H k ∧ Q k H) := by
  intro pins s σ H x v Q I rx h
  obtain ⟨k, e, q⟩ := h
  have hl := line63
  have hs : sizeLine = 16777216 := sizeLine_eq
  cases x with
  | non =>
    cases rx
    have e' : k = false := e
    subst e'
    exact truthy_none ⟨H, I, q⟩
  | bl b =>
    cases rx
    have e' : k = b := e
    subst e'
    exact wpAny_truthy_bool ⟨H, I, q⟩
  | int i =>
    obtain ⟨t, rfl⟩ := rx
    have e' : k = (i != 0) := e
    subst e'
    exact PySem.P.truthy_int ⟨H, I, q⟩
  | str y =>
    obtain ⟨t, rfl⟩ := rx
    obtain ⟨hy, e'⟩ : y.length ≤ sizeLine ∧ k = ((y.length : Int) != 0) := e
    subst e'
    exact PySem.P.truthy_str (by omega) ⟨H, I.tok _, q⟩
  | byt y =>
    obtain ⟨t, rfl⟩ := rx
    obtain ⟨hy, e'⟩ : y.size ≤ sizeLine ∧ k = ((y.size : Int) != 0) := e
    subst e'
    exact PySem.W.truthy_bytes (by omega) ⟨H, I.tok _, q⟩
  | ref p =>
    cases rx
    have e' : (∃ xs, SqL X.K H p xs ∧ k = !xs.isEmpty) ∨ (∃ xs, SqT X.K H p xs ∧ k = !xs.isEmpty) ∨ ∃ kvs, H p = some (.dK kvs) ∧ k = !kvs.isEmpty := e
    rcases e' with ⟨xs, hx, e'⟩ | ⟨xs, hx, e'⟩ | ⟨kvs, hx, e'⟩
    · subst e'
      obtain ⟨its, r, pl, hz⟩ := I.list hx
      have hlen := r.length
      exact wpAny_truthy_list pl.isList (by simp only [List.size_toArray]; omega) ⟨H, I.tok _, by rw [isEmpty_of r]; exact q⟩
    · subst e'
      obtain ⟨its, r, pl, hz⟩ := I.tuple hx
      have hlen := r.length
      exact truthy_tuple pl (by simp only [List.size_toArray]; omega) ⟨H, I.tok _, by rw [isEmpty_of r]; exact q⟩
    · subst e'
      obtain ⟨hz, hS, vs, r, m⟩ : kvs.length ≤ sizeLine ∧ (p == sysModules) = false ∧ ∃ vs, KV kvs vs ∧ s.heap.DictOf (mixKind X.prog X.w) p vs := I.hok p _ hx
      have hlen : kvs.length = vs.length := Paired.length r
      exact wpAny_truthy_dict hS m (by omega) ⟨H, I.tok _, by rw [isEmpty_kv r]; exact q⟩
  | _ => exact (show False from e).elim
/-- any expression whose test is its value's truth (a name, a call, a subscript, a field ..: he by fun _ => rfl) -/
theorem pt_truth (ha : PE X a ta) (he : ∀ whole, isTrue a X.env whole = (do let v ← whole; standAt a.pos; holding [v] (truthy v))) :
    PT X a (fun σ H Q => ta σ H fun x H' => ∃ k, TruV X.K x H' k ∧ Q k H') := by
  intro pins s σ H Q I h
  exact isTrue_plain (thn (ha pins s σ H _ I h) fun v s1 ⟨x, H1, I1, r1, q1⟩ => tru_ok pins s1 σ H1 x v Q I1 r1 q1) (he _)

/-! ### strs and bytes -/
theorem pe_byt {x : List UInt8} {k : Nat} : PE X (.Constant (.bytes x) k pos) (fun _ H Q => Q (.byt x.toArray) H) := fun _ _ _ H _ I h => PySem.W.Constant_bytes ⟨.byt x.toArray, H, I.tok _, ⟨_, rfl⟩, h⟩
theorem op_add_str : OpR X (binaryOp .Add) (fun x y H Q => ∃ i j, x = .str i ∧ y = .str j ∧ i.length + j.length ≤ sizeLine ∧ Q (.str (i ++ j)) H) := by
  intro pins s σ H x y v u Q I rx ry h
  obtain ⟨i, j, rfl, rfl, hz, q⟩ := h
  obtain ⟨t, rfl⟩ := rx
  obtain ⟨t', rfl⟩ := ry
  exact add_str (fun t' tk => ⟨.str (i ++ j), H, I.tok _, ⟨_, rfl⟩, q⟩) hz
theorem iop_add_str : OpR X (inplaceOp .Add) (fun x y H Q => ∃ i j, x = .str i ∧ y = .str j ∧ i.length + j.length ≤ sizeLine ∧ Q (.str (i ++ j)) H) := by
  intro pins s σ H x y v u Q I rx ry h
  obtain ⟨i, j, rfl, rfl, hz, q⟩ := h
  obtain ⟨t, rfl⟩ := rx
  obtain ⟨t', rfl⟩ := ry
  exact iadd_str (fun t' tk => ⟨.str (i ++ j), H, I.tok _, ⟨_, rfl⟩, q⟩) hz
theorem op_add_byt : OpR X (binaryOp .Add) (fun x y H Q => ∃ i j, x = .byt i ∧ y = .byt j ∧ i.size + j.size ≤ 16777216 ∧ Q (.byt (i ++ j)) H) := by
  intro pins s σ H x y v u Q I rx ry h
  obtain ⟨i, j, rfl, rfl, hz, q⟩ := h
  obtain ⟨t, rfl⟩ := rx
  obtain ⟨t', rfl⟩ := ry
  exact PySem.W.KBy.add_bytes hz (fun t' tk => ⟨.byt (i ++ j), H, I.tok _, ⟨_, rfl⟩, q⟩)

def PlainIxT (b : Expr) : Prop := ∀ o i, subscripted b false o i = operate [o, i] (getItem o i)
/-- s[i], 0 ≤ i < len -/
theorem pe_item_str (ha : PE X a ta) (hb : PE X b tb) (hs : PlainIxT b) :
    PE X (.Subscript a b pos) (tOp (fun x y H Q => ∃ z i c, x = .str z ∧ y = .int i ∧ 0 ≤ i ∧ i < 2 ^ 63 ∧ i < z.length ∧ z.cps[i.toNat]? = some c ∧ Q (.str ⟨#[c]⟩) H) ta tb) := by
  intro pins s σ H Q I h
  refine Subscript_ (binT ha hb I h fun v u s2 x y H2 I2 rx ry q => ?_)
  obtain ⟨z, i, c, rfl, rfl, h0, h63, h1, hc, q⟩ := q
  obtain ⟨t, rfl⟩ := rx
  obtain ⟨t', rfl⟩ := ry
  have e : seqIndex? i z.length = some i.toNat := PySem.StrLaws.seqIndex_nonneg h0 h1
  exact tail_any (typeIs_str s2 z t) slot_str_getitem.lookup (getItem_str (c := c) (by
    have e1 : decide (i < -(2 ^ 63 : Int)) = false := decide_eq_false (by omega)
    have e2 : decide (i ≥ 2 ^ 63) = false := decide_eq_false (by omega)
    rw [e1, e2] <;> rfl) (by rw [e]; exact hc) ⟨.str ⟨#[c]⟩, H2, I2.tok _, ⟨_, rfl⟩, q⟩) (hs _ _)
/-- b[i], 0 ≤ i < len -/
theorem pe_item_byt (ha : PE X a ta) (hb : PE X b tb) (hs : PlainIxT b) :
    PE X (.Subscript a b pos) (tOp (fun x y H Q => ∃ (z : List UInt8) (i : Int), x = .byt z.toArray ∧ y = .int i ∧ z.length ≤ sizeLine ∧ 0 ≤ i ∧ i < z.length ∧ Q (.int ((z.getD i.toNat 0).toNat : Nat)) H) ta tb) := by
  intro pins s σ H Q I h
  refine Subscript_ (binT ha hb I h fun v u s2 x y H2 I2 rx ry q => ?_)
  obtain ⟨z, i, rfl, rfl, hz, h0, h1, q⟩ := q
  obtain ⟨t, rfl⟩ := rx
  obtain ⟨t', rfl⟩ := ry
  have hl : sizeLine = 16777216 := sizeLine_eq
  exact tail_any (PySem.W.typeIs_bytes s2 z.toArray t) PySem.W.FB.slot_bytes_getitem.lookup (PySem.W.getItem_bytes (by omega) h0 h1 ⟨.int ((z.getD i.toNat 0).toNat : Nat), H2, I2.tok _, ⟨_, rfl⟩, q⟩) (hs _ _)

/-! ### scalar builtins, by CallR -/
theorem vals1 {x : V} {us : List Value} (r : Vals [x] us) : ∃ u, us = [u] ∧ RelV x u := by
  cases r with
  | cons r1 r2 => cases r2; exact ⟨_, rfl, r1⟩
theorem vals2 {x y : V} {us : List Value} (r : Vals [x, y] us) : ∃ u w', us = [u, w'] ∧ RelV x u ∧ RelV y w' := by
  cases r with
  | cons r1 r2 =>
    cases r2 with
    | cons r3 r4 => cases r4; exact ⟨_, _, rfl, r1, r3⟩
theorem call_abs : CallR X (.builtin "abs") (fun xs H Q => ∃ i, xs = [.int i] ∧ Q (.int (if i < 0 then -i else i)) H) := by
  intro pins s σ H xs us Q I r h
  obtain ⟨i, rfl, q⟩ := h
  obtain ⟨u, rfl, t, rfl⟩ := vals1 r
  exact call_abs_int fun u tk => ⟨.int (if i < 0 then -i else i), H, I.tok _, ⟨_, rfl⟩, q⟩
theorem call_max2 (hc : X.calm = true) : CallR X (.builtin "max") (fun xs H Q => ∃ i j, xs = [.int i, .int j] ∧ Q (.int (if j > i then j else i)) H) := by
  intro pins s σ H xs us Q I r h
  obtain ⟨i, j, rfl, q⟩ := h
  obtain ⟨u, w', rfl, ⟨t, rfl⟩, ⟨t', rfl⟩⟩ := vals2 r
  refine max_two_ints (I.ok.hd hc) fun h' tk k => ⟨_, H, I.kept k, ?_, q⟩
  by_cases hj : j > i
  · rw [if_pos hj, if_pos hj]; exact ⟨_, rfl⟩
  · rw [if_neg hj, if_neg hj]; exact ⟨_, rfl⟩
theorem call_min2 (hc : X.calm = true) : CallR X (.builtin "min") (fun xs H Q => ∃ i j, xs = [.int i, .int j] ∧ Q (.int (if j < i then j else i)) H) := by
  intro pins s σ H xs us Q I r h
  obtain ⟨i, j, rfl, q⟩ := h
  obtain ⟨u, w', rfl, ⟨t, rfl⟩, ⟨t', rfl⟩⟩ := vals2 r
  refine min_two_ints (I.ok.hd hc) fun h' tk k => ⟨_, H, I.kept k, ?_, q⟩
  by_cases hj : j < i
  · rw [if_pos hj, if_pos hj]; exact ⟨_, rfl⟩
  · rw [if_neg hj, if_neg hj]; exact ⟨_, rfl⟩
theorem call_int1 : CallR X (.type "int") (fun xs H Q => (∃ i, xs = [.int i] ∧ Q (.int i) H) ∨ ∃ k, xs = [.bl k] ∧ Q (.int (if k then 1 else 0)) H) := by
  intro pins s σ H xs us Q I r h
  rcases h with ⟨i, rfl, q⟩ | ⟨k, rfl, q⟩
  · obtain ⟨u, rfl, t, rfl⟩ := vals1 r
    exact call_int_int ⟨.int i, H, I, ⟨_, rfl⟩, q⟩
  · obtain ⟨u, rfl, r1⟩ := vals1 r
    cases r1
    exact call_int_bool ⟨.int (if k then 1 else 0), H, I.tok _, ⟨_, rfl⟩, q⟩
theorem call_bool1 : CallR X (.type "bool") (fun xs H Q => (∃ i, xs = [.int i] ∧ Q (.bl (i != 0)) H) ∨ ∃ k, xs = [.bl k] ∧ Q (.bl k) H) := by
  intro pins s σ H xs us Q I r h
  rcases h with ⟨i, rfl, q⟩ | ⟨k, rfl, q⟩
  · obtain ⟨u, rfl, t, rfl⟩ := vals1 r
    exact call_bool_int ⟨.bl (i != 0), H, I, rfl, q⟩
  · obtain ⟨u, rfl, r1⟩ := vals1 r
    cases r1
    exact call_bool_bool ⟨.bl k, H, I, rfl, q⟩
theorem call_str_int : CallR X (.type "str") (fun xs H Q => ∃ i, xs = [.int i] ∧ i.natAbs.log2 < 1920 ∧ Q (.str (toString i)) H) := by
  intro pins s σ H xs us Q I r h
  obtain ⟨i, rfl, hz, q⟩ := h
  obtain ⟨u, rfl, t, rfl⟩ := vals1 r
  exact PySem.P.str_of_int hz ⟨.str _, H, I.tok _, ⟨_, rfl⟩, q⟩
theorem call_ord : CallR X (.builtin "ord") (fun xs H Q => ∃ x, xs = [.str x] ∧ x.length = 1 ∧ Q (.int (x.cps.getD 0 0 : Nat)) H) := by
  intro pins s σ H xs us Q I r h
  obtain ⟨x, rfl, hz, q⟩ := h
  obtain ⟨u, rfl, t, rfl⟩ := vals1 r
  exact ord_of_one hz ⟨.int _, H, I.tok _, ⟨_, rfl⟩, q⟩
theorem call_chr : CallR X (.builtin "chr") (fun xs H Q => ∃ i, xs = [.int i] ∧ 0 ≤ i ∧ i ≤ 1114111 ∧ Q (.str ⟨#[i.toNat]⟩) H) := by
  intro pins s σ H xs us Q I r h
  obtain ⟨i, rfl, h0, h1, q⟩ := h
  obtain ⟨u, rfl, t, rfl⟩ := vals1 r
  exact chr_of_range h0 h1 ⟨.str _, H, I.tok _, ⟨_, rfl⟩, q⟩
/-- len of a str, a bytes, a list, a tuple -/
def LenV (K : PySem.W.Frag) (x : V) (H : Hp) (n : Nat) : Prop :=
  match x with
  | .str y => y.length ≤ sizeLine ∧ n = y.length
  | .byt y => y.size ≤ sizeLine ∧ n = y.size
  | .ref p => (∃ xs, SqL K H p xs ∧ n = xs.length) ∨ ∃ xs, SqT K H p xs ∧ n = xs.length
  | _ => False
theorem call_len : CallR X (.builtin "len") (fun xs H Q => ∃ x n, xs = [x] ∧ LenV X.K x H n ∧ Q (.int n) H) := by
  intro pins s σ H xs us Q I r h
  obtain ⟨x, n, rfl, e, q⟩ := h
  obtain ⟨u, rfl, rx⟩ := vals1 r
  have hl := line63
  have hs : sizeLine = 16777216 := sizeLine_eq
  cases x with
  | str y =>
    obtain ⟨t, rfl⟩ := rx
    obtain ⟨hy, e'⟩ : y.length ≤ sizeLine ∧ n = y.length := e
    subst e'
    exact len_str (by omega) ⟨.int _, H, I.tok _, ⟨_, rfl⟩, q⟩
  | byt y =>
    obtain ⟨t, rfl⟩ := rx
    obtain ⟨hy, e'⟩ : y.size ≤ sizeLine ∧ n = y.size := e
    subst e'
    exact PySem.W.len_bytes (by omega) ⟨.int _, H, I.tok _, ⟨_, rfl⟩, q⟩
  | ref p =>
    cases rx
    have e' : (∃ xs, SqL X.K H p xs ∧ n = xs.length) ∨ ∃ xs, SqT X.K H p xs ∧ n = xs.length := e
    rcases e' with ⟨xs, hx, e'⟩ | ⟨xs, hx, e'⟩
    · subst e'
      obtain ⟨its, r', pl, hz⟩ := I.list hx
      have hlen := r'.length
      exact Calls.call_len_list pl.isList (by simp only [List.size_toArray]; omega) ⟨.int xs.length, H, I.tok _, ⟨_, by simp only [List.size_toArray]; rw [hlen]⟩, q⟩
    · subst e'
      obtain ⟨its, r', pl, hz⟩ := I.tuple hx
      have hlen := r'.length
      exact len_tuple pl (by simp only [List.size_toArray]; omega) ⟨.int xs.length, H, I.tok _, ⟨_, by simp only [List.size_toArray]; rw [hlen]⟩, q⟩
  | _ => exact (show False from e).elim
/-- divmod: a new tuple -/
theorem call_divmod : CallR X (.builtin "divmod") (fun xs H Q => ∃ i j, xs = [.int i, .int j] ∧ CDiv i j ∧ ∀ p, H p = none → Q (.ref p) (upd H p (.tup [.int (i / j), .int (i % j)]))) := by
  intro pins s σ H xs us Q I r h
  obtain ⟨i, j, rfl, ⟨h1, h2⟩, q⟩ := h
  obtain ⟨u, w', rfl, ⟨t, rfl⟩, ⟨t', rfl⟩⟩ := vals2 r
  refine divmod_int (by omega) ?_ (.inl (PyProof.noPylong_small (by omega)))
  rw [Int.fdiv_eq_ediv_of_nonneg i (by omega), Int.fmod_eq_emod_of_nonneg i (by omega)]
  have hn : H s.heap.objs.size = none := I.hok.fresh (Nat.le_refl _)
  refine ⟨.ref s.heap.objs.size, _, ?_, rfl, q _ hn⟩
  refine I.laid (fun b o e => Heap.get?_push_of_some _ e) (Nat.le_refl _) ⟨by simp only [List.length_cons, List.length_nil]; rw [sizeLine_eq]; decide, [.int (i / j) s.toks, .int (i % j) (s.toks + 1)], .cons ⟨_, rfl⟩ (.cons ⟨_, rfl⟩ .nil), ?_⟩
  exact ⟨_, Heap.get?_push_size s.heap rfl, rfl, 0, rfl⟩
end
end L2

namespace L2
open PySem PySem.Spec PyProof.Rows

/-! ### an instance, its attributes a map -/
structure ObjM (h : Heap) (x dx C : Addr) (mA : Str → Option Value) : Prop where
  obj : h.get? x = some (PySem.W.instObj C dx)
  ns : h.Ns1 dx mA
  ne : dx ≠ x

theorem lookIn_ns {h : Heap} {dx : Addr} {mA : Str → Option Value} (n : h.Ns1 dx mA) : ∃ od, h.get? dx = some od ∧ ∀ name, PySem.W.lookIn name od = some (mA name) := by
  obtain ⟨o, es, ep, ho, hd, hk, _, hm⟩ := n
  refine ⟨o, ho, fun name => ?_⟩
  have e := hm name
  unfold nsFind findBy at e
  rw [← Array.find?_toList] at e
  unfold PySem.W.lookIn
  rw [hd]
  dsimp only
  split
  · rename_i y q
    rw [q] at e
    exact congrArg some e
  · rename_i q
    rw [q] at e
    have a : es.toList.any (·.refKey) = false := by
      rw [List.any_eq_false]
      intro y hy
      obtain ⟨z, t, hkey⟩ := hk y (Array.mem_toList_iff.mp hy)
      simp [DictEntry.refKey, hkey]
    have a' : ¬ es.toList.any (·.refKey) = true := by rw [a]; exact Bool.false_ne_true
    rw [if_neg a']
    exact congrArg some e

theorem ObjM.look {h : Heap} {x dx C : Addr} {mA : Str → Option Value} (I : ObjM h x dx C mA) : ∃ od, PySem.W.InstAt h x (PySem.W.instObj C dx) C (some od) ∧ ∀ name, PySem.W.lookIn name od = some (mA name) :=
  let ⟨od, ho, hl⟩ := lookIn_ns I.ns
  ⟨od, ⟨I.obj, rfl, rfl, ho⟩, hl⟩

section
variable {prog : Program} {w : World} {A : Around} {E : Value → Shared → Prop} {s : Shared} {K : PySem.W.Frag} {x dx C f : Addr} {mA : Str → Option Value} {name : Str} {v : Value}

theorem get_map {expr : Bool} {Q : Value → Shared → Prop} (X : K.In s.heap) (I : ObjM s.heap x dx C mA) (hg : PySem.W.plainGet K C name = true) (hh : PySem.W.hasDictIn K C = true)
    (ha : PySem.W.findIn K (.ref C) name = some none) (hv : mA name = some v) (hv' : PySem.W.handedIn v = true) (h : Q v { s with toks := s.toks + 1 }) :
    wpAny (model prog w) A (getAttr (.ref x) name expr) Q E s := by
  obtain ⟨od, J, hl⟩ := I.look
  exact PySem.W.get_value X J (PySem.W.plainGet_of hg).1 (PySem.W.findObj_own hh ha rfl (by rw [hl, hv])) hv' h

theorem get_const {expr : Bool} {a : Value} {Q : Value → Shared → Prop} (X : K.In s.heap) (I : ObjM s.heap x dx C mA) (hg : PySem.W.plainGet K C name = true) (hh : PySem.W.hasDictIn K C = true)
    (ha : PySem.W.findIn K (.ref C) name = some (some a)) (hn : PySem.W.specialIn K a "__get__" = some none) (hc : PySem.W.copiedNames.contains name = false) (hv : mA name = none) (hv' : PySem.W.handedIn a = true)
    (h : Q a { s with toks := s.toks + 1 }) : wpAny (model prog w) A (getAttr (.ref x) name expr) Q E s := by
  obtain ⟨od, J, hl⟩ := I.look
  exact PySem.W.get_value X J (PySem.W.plainGet_of hg).1 (PySem.W.findObj_cls hh ha hn hv' hc (by rw [hl, hv])) hv' h

theorem get_meth {pl : Sem Bool} {Q : Value × List Value → Shared → Prop} (X : K.In s.heap) (I : ObjM s.heap x dx C mA) (hg : PySem.W.plainGet K C name = true)
    (hf : PySem.W.findIn K (.ref C) name = some (some (.ref f))) (ht : PySem.W.isFn K (.ref f) = true) (hv : mA name = none) (h : Q (.ref f, [.ref x]) s) :
    wpAny (model prog w) A (getMethod (.ref x) name pl) Q E s := by
  obtain ⟨od, J, hl⟩ := I.look
  exact PySem.W.method_fn X J (PySem.W.plainGet_of hg).1 (PySem.W.plainGet_of hg).2 hf (beq_iff_eq.mp ht) (by show (PySem.W.lookIn name od).map (·.isSome) = some false; rw [hl, hv]; rfl) h

theorem set_map {ns : List Str} {Q : Unit → Shared → Prop} (X : K.In s.heap) (I : ObjM s.heap x dx C mA)
    (hs : PySem.W.findIn K (.ref C) "__setattr__" = some (some (.builtin "object.__setattr__"))) (hp : PySem.W.plainOver K C = true) (ht : PySem.W.takerIn K C name = some none) (hh : PySem.W.hasDictIn K C = true)
    (hw : PySem.Within mA ns) (hsz : ns.length ≤ sizeLine)
    (h : ∀ h', ObjM h' x dx C (fun y => if y = name then some v else mA y) → Heap.SameBut dx s.heap h' → Q () { s with heap := h', toks := s.toks + 2 }) :
    wpAny (model prog w) A (setAttr (.ref x) name v) Q E s := by
  obtain ⟨od, J, hl⟩ := I.look
  refine PySem.W.set_plain X J hs (PySem.W.osa_open (s := { s with toks := s.toks + 1 }) (r := none) X J hp ht fun b => ?_)
  obtain ⟨cd, hc, hd'⟩ := PySem.W.any_some hh
  have hx : s.heap.get? x = some ⟨.ref C, some dx, .plain, #[]⟩ := I.obj
  refine wpAny_bind (wpAny_pure (wpAny_bind (wpAny_bind (wpAny_loadPart hx (wpAny_bind (PySem.W.Looks.here (s := { s with toks := s.toks + 1 }) (PySem.W.looks_clsIn X hc) ?_))))))
  rw [hd']
  refine wpAny_pure (a := some dx) (wpAny_bind (wpAny_pure (wpAny_bind ?_)))
  refine wpAny_nsSet1 (s := { s with toks := s.toks + 1 }) I.ns fun h' hn2 hs2 => ?_
  obtain ⟨oD, esD, epD, hoD, hdD, hcD⟩ := hn2.count (PySem.Within.cons name v hw)
  refine wpAny_bind (wpAny_lookBehind hoD (by rw [hdD]; exact pastItsLine_dict (Nat.le_trans hcD (by rw [List.length_cons]; omega))) ?_)
  exact wpAny_pure (h _ ⟨(hs2.2 _ (Ne.symm I.ne)).trans I.obj, hn2, I.ne⟩ hs2)

/-- C(..): the dict at the heap's end, the instance behind it; then its __init__ -/
theorem make_map {R : Result → Shared → Prop} {vs : List Value} {kw : List (Str × Value)} (X : K.In s.heap) (hm : PySem.W.makesIn K C = true)
    (hi : PySem.W.findIn K (.ref C) "__init__" = some (some (.ref f))) (hf : PySem.W.typeIn K (.ref f) = some (.type "function"))
    (h : codeAny (model prog w) (A.under (.builtin "type.__call__" ⟨.ref C :: vs, kw⟩)) (.call (.ref f) ⟨.ref (s.heap.objs.size + 1) :: vs, kw⟩) (PySem.W.InitBack (s.heap.objs.size + 1) R)
      { s with heap := (s.heap.push PySem.W.emptyDict).push (PySem.W.instObj C s.heap.objs.size) }) :
    codeAny (model prog w) A (.call (.ref C) ⟨vs, kw⟩) R s := by
  obtain ⟨hh, g, d, t, os⟩ := s
  exact PySem.W.make_core (PySem.W.makes_of X hm) (PySem.W.looks_findIn X hi) (fun self => PySem.W.bind_fn X self hf) (.inl rfl) h
/-- C() where there is no __init__ but object's -/
theorem make_map0 {R : Result → Shared → Prop} (X : K.In s.heap) (hm : PySem.W.makesIn K C = true)
    (hi : PySem.W.findIn K (.ref C) "__init__" = some (some (.builtin "object.__init__")))
    (hb : ∀ self, PySem.W.Looks (model prog w) s.heap (bindSpecial (.builtin "object.__init__") self) (.builtin "object.__init__", [self]))
    (h : codeAny (model prog w) (A.under (.builtin "type.__call__" ⟨[.ref C], []⟩)) (.call (.builtin "object.__init__") ⟨[.ref (s.heap.objs.size + 1)], []⟩) (PySem.W.InitBack (s.heap.objs.size + 1) R)
      { s with heap := (s.heap.push PySem.W.emptyDict).push (PySem.W.instObj C s.heap.objs.size) }) :
    codeAny (model prog w) A (.call (.ref C) ⟨[], []⟩) R s := by
  obtain ⟨hh, g, d, t, os⟩ := s
  exact PySem.W.make_core (PySem.W.makes_of X hm) (PySem.W.looks_findIn X hi) hb (.inr ⟨rfl, rfl⟩) h
end

/-! ### the attributes as a list of pairs -/
def putF (f : Str) (v : V) : List (Str × V) → List (Str × V)
  | [] => [(f, v)]
  | (g, x) :: r => if g = f then (g, v) :: r else (g, x) :: putF f v r
theorem lookup_putF (f g : Str) (v : V) : ∀ fs : List (Str × V), (putF f v fs).lookup g = if g = f then some v else fs.lookup g
  | [] => by
    show List.lookup g [(f, v)] = _
    by_cases h : g = f
    · have hb : (g == f) = true := beq_iff_eq.mpr h
      simp only [List.lookup, hb, if_pos h]
    · have hb : (g == f) = false := beq_eq_false_iff_ne.mpr h
      simp only [List.lookup, hb, if_neg h]
  | (k, x) :: r => by
    have ih := lookup_putF f g v r
    rw [show putF f v ((k, x) :: r) = (if k = f then (k, v) :: r else (k, x) :: putF f v r) from rfl]
    by_cases hk : k = f
    · rw [if_pos hk]
      by_cases h : g = k
      · have hb : (g == k) = true := beq_iff_eq.mpr h
        simp only [List.lookup, hb, if_pos (h.trans hk)]
      · have hb : (g == k) = false := beq_eq_false_iff_ne.mpr h
        simp only [List.lookup, hb, if_neg (fun e : g = f => h (e.trans hk.symm))]
    · rw [if_neg hk]
      by_cases h : g = k
      · have hb : (g == k) = true := beq_iff_eq.mpr h
        simp only [List.lookup, hb, if_neg (fun e : g = f => hk (h.symm.trans e))]
      · have hb : (g == k) = false := beq_eq_false_iff_ne.mpr h
        simp only [List.lookup, hb]
        exact ih
theorem keys_putF (f : Str) (v : V) : ∀ fs : List (Str × V), f ∈ (putF f v fs).map (·.1) ∧ ∀ g, g ∈ fs.map (·.1) → g ∈ (putF f v fs).map (·.1)
  | [] => ⟨by simp [putF], fun g h => by simp at h⟩
  | (k, x) :: r => by
    obtain ⟨i1, i2⟩ := keys_putF f v r
    rw [show putF f v ((k, x) :: r) = (if k = f then (k, v) :: r else (k, x) :: putF f v r) from rfl]
    by_cases hk : k = f
    · rw [if_pos hk]
      subst hk
      exact ⟨by simp, fun g h => by simpa using h⟩
    · rw [if_neg hk]
      refine ⟨?_, fun g h => ?_⟩
      · rw [List.map_cons]
        exact List.mem_cons_of_mem _ i1
      · rw [List.map_cons] at h ⊢
        rcases List.mem_cons.mp h with e | e
        · exact List.mem_cons.mpr (.inl e)
        · exact List.mem_cons_of_mem _ (i2 g e)
theorem length_putF (f : Str) (v : V) : ∀ fs : List (Str × V), (putF f v fs).length ≤ fs.length + 1
  | [] => by simp [putF]
  | (k, x) :: r => by
    have ih := length_putF f v r
    rw [show putF f v ((k, x) :: r) = (if k = f then (k, v) :: r else (k, x) :: putF f v r) from rfl]
    by_cases hk : k = f
    · rw [if_pos hk, List.length_cons, List.length_cons]; omega
    · rw [if_neg hk, List.length_cons, List.length_cons]; omega

theorem RelO.some_of {v : V} {o : Option Value} (r : RelO (some v) o) : ∃ u, o = some u ∧ RelV v u := by
  cases o with
  | none => exact (show False from r).elim
  | some u => exact ⟨u, rfl, r⟩
theorem RelO.none_of {o : Option Value} (r : RelO none o) : o = none := by
  cases o with
  | none => rfl
  | some u => exact (show False from r).elim
theorem handed_of {v : V} {u : Value} (r : RelV v u) : PySem.W.handedIn u = true := by
  cases v with
  | non => cases (show u = Value.none from r); rfl
  | bl b => cases (show u = Value.bool b from r); rfl
  | int i => obtain ⟨t, e⟩ := (show ∃ t, u = Value.int i t from r); cases e; rfl
  | str x => obtain ⟨t, e⟩ := (show ∃ t, u = Value.str x t from r); cases e; rfl
  | byt b => obtain ⟨t, e⟩ := (show ∃ t, u = Value.bytes b t from r); cases e; rfl
  | flt b => obtain ⟨t, e⟩ := (show ∃ t, u = Value.float b t from r); cases e; rfl
  | ref a => cases (show u = Value.ref a from r); rfl
  | ty n => cases (show u = Value.type n from r); rfl

section
variable {P : Program} {w : World} {H H' : Hp} {h h' : Heap} {a C dx : Addr} {fs fs' : List (Str × V)}
theorem ins_get (hok : HOk P w H h) (e : H a = some (.ins C dx fs)) : ∃ mA, ObjM h a dx C mA ∧ (∀ f, RelO (fs.lookup f) (mA f)) ∧ PySem.Within mA (fs.map (·.1)) ∧ fs.length ≤ 1000 ∧ H dx = some (.own a) := by
  obtain ⟨d, z, ne, ob, mA, n, r, q⟩ := (show ObjOk P w H h a (.ins C dx fs) from hok a _ e)
  exact ⟨mA, ⟨ob, n, ne⟩, r, q, z, d⟩
end

/-! ### what of the text a class must have -/
structure Cls (K : PySem.W.Frag) (C : Addr) : Prop where
  pg : PySem.W.plainGet K C Str.empty = true
  hd : PySem.W.hasDictIn K C = true
  po : PySem.W.plainOver K C = true
  sa : PySem.W.findIn K (.ref C) "__setattr__" = some (some (.builtin "object.__setattr__"))
theorem Cls.get {K : PySem.W.Frag} {C : Addr} (c : Cls K C) (f : Str) : PySem.W.plainGet K C f = true := c.pg
/-- no class of it has the name -/
def NoAttr (K : PySem.W.Frag) (C : Addr) (f : Str) : Prop := PySem.W.findIn K (.ref C) f = some none
theorem NoAttr.taker {K : PySem.W.Frag} {C : Addr} {f : Str} (n : NoAttr K C f) : PySem.W.takerIn K C f = some none := by
  unfold PySem.W.takerIn
  rw [show PySem.W.findIn K (.ref C) f = some none from n]
  rfl
/-- a constant of the class -/
structure Con (K : PySem.W.Frag) (C : Addr) (f : Str) (v : V) (u : Value) : Prop where
  at_ : PySem.W.findIn K (.ref C) f = some (some u)
  rel : RelV v u
  get : PySem.W.specialIn K u "__get__" = some none
  cp : PySem.W.copiedNames.contains f = false
/-- a method: a plain def of the class or of one above it -/
structure Meth (K : PySem.W.Frag) (C : Addr) (m : Str) (f : Addr) : Prop where
  at_ : PySem.W.findIn K (.ref C) m = some (some (.ref f))
  fn : PySem.W.isFn K (.ref f) = true
  kp : PySem.W.keepIn K (.ref f) = true

section
variable {X : Cx} {pins : List (Addr × Obj)} {σ : St} {H : Hp} {s : Shared} {a C dx : Addr} {fs : List (Str × V)} {f : Str} {v : V} {A : Around} {E : Value → Shared → Prop}

theorem getattr_ok {b : Bool} {Q : Value → Shared → Prop} (I : Inv X pins σ H s) (e : H a = some (.ins C dx fs)) (c : Cls X.K C) (n : NoAttr X.K C f) (l : fs.lookup f = some v)
    (h : ∀ u s', Inv X pins σ H s' → RelV v u → Q u s') : wpAny (model X.prog X.w) A (getAttr (.ref a) f b) Q E s := by
  obtain ⟨mA, O, r, _, _, _⟩ := ins_get I.hok e
  obtain ⟨u, hu, ru⟩ := RelO.some_of (v := v) (o := mA f) (by rw [← l]; exact r f)
  exact get_map I.kIn O (c.get f) c.hd n hu (handed_of ru) (h u _ (I.tok _) ru)

theorem getcon_ok {b : Bool} {u : Value} {Q : Value → Shared → Prop} (I : Inv X pins σ H s) (e : H a = some (.ins C dx fs)) (c : Cls X.K C) (k : Con X.K C f v u) (l : fs.lookup f = none)
    (h : ∀ s', Inv X pins σ H s' → Q u s') : wpAny (model X.prog X.w) A (getAttr (.ref a) f b) Q E s := by
  obtain ⟨mA, O, r, _, _, _⟩ := ins_get I.hok e
  have hn : mA f = none := RelO.none_of (by rw [← l]; exact r f)
  exact get_const I.kIn O (c.get f) c.hd k.at_ k.get k.cp hn (handed_of k.rel) (h _ (I.tok _))

theorem getmeth_ok {m : Str} {g : Addr} {pl : Sem Bool} {Q : Value × List Value → Shared → Prop} (I : Inv X pins σ H s) (e : H a = some (.ins C dx fs)) (c : Cls X.K C) (k : Meth X.K C m g) (l : fs.lookup m = none)
    (h : Q (.ref g, [.ref a]) s) : wpAny (model X.prog X.w) A (getMethod (.ref a) m pl) Q E s := by
  obtain ⟨mA, O, r, _, _, _⟩ := ins_get I.hok e
  have hn : mA m = none := RelO.none_of (by rw [← l]; exact r m)
  exact get_meth I.kIn O (c.get m) k.at_ k.fn hn h

theorem setattr_ok {y : V} {u : Value} {Q : Unit → Shared → Prop} (I : Inv X pins σ H s) (e : H a = some (.ins C dx fs)) (c : Cls X.K C) (n : NoAttr X.K C f) (hl : fs.length < 1000) (ry : RelV y u)
    (h : ∀ s', Inv X pins σ (upd H a (.ins C dx (putF f y fs))) s' → Q () s') : wpAny (model X.prog X.w) A (setAttr (.ref a) f u) Q E s := by
  obtain ⟨mA, O, r, wi, _, ho⟩ := ins_get I.hok e
  have hz : (fs.map (·.1)).length ≤ sizeLine := by rw [List.length_map, sizeLine_eq]; omega
  refine set_map I.kIn O c.sa c.po n.taker c.hd wi hz fun h' O' sb => h _ ?_
  have hd : ∃ o, h'.get? dx = some o := let ⟨o, _, _, e', _⟩ := O'.ns; ⟨o, e'⟩
  refine I.write (x := a) (e := dx) (by rw [e]; exact True.intro) (.inr ho) (fun b q hb z => (sb.2 b hb).trans z) hd ?_
  refine ⟨by rw [upd_ne O.ne]; exact ho, ?_, O.ne, O'.obj, _, O'.ns, fun g => ?_, fun g hg => ?_⟩
  · have := length_putF f y fs; omega
  · show RelO ((putF f y fs).lookup g) (if g = f then some u else mA g)
    rw [lookup_putF]
    by_cases q : g = f
    · rw [if_pos q, if_pos q]; exact ry
    · rw [if_neg q, if_neg q]; exact r g
  · by_cases q : g = f
    · rw [q]; exact (keys_putF f y fs).1
    · refine (keys_putF f y fs).2 g (wi g fun z => hg ?_)
      show (if g = f then some u else mA g) = none
      rw [if_neg q]; exact z

/-- a new instance, tracked, without attributes -/
theorem Inv.made (I : Inv X pins σ H s) : Inv X pins σ (upd (upd H s.heap.objs.size (.own (s.heap.objs.size + 1))) (s.heap.objs.size + 1) (.ins C s.heap.objs.size []))
    { s with heap := (s.heap.push PySem.W.emptyDict).push (PySem.W.instObj C s.heap.objs.size) } := by
  have e1 : (s.heap.push PySem.W.emptyDict).get? s.heap.objs.size = some PySem.W.emptyDict := Heap.get?_push_size s.heap rfl
  have e2 : ((s.heap.push PySem.W.emptyDict).push (PySem.W.instObj C s.heap.objs.size)).get? (s.heap.objs.size + 1) = some (PySem.W.instObj C s.heap.objs.size) := by
    have := Heap.get?_push_size (s.heap.push PySem.W.emptyDict) (o := PySem.W.instObj C s.heap.objs.size) rfl
    rwa [Heap.size_push] at this
  have e3 : (s.heap.push PySem.W.emptyDict).Ns s.heap.objs.size (fun _ => none) := ⟨PySem.W.emptyDict, #[], _, e1, rfl, (fun e he => absurd he (by simp)), fun _ => rfl⟩
  have I1 := I.laid (a := s.heap.objs.size) (o := .own (s.heap.objs.size + 1)) (h' := s.heap.push PySem.W.emptyDict) (t' := s.toks) (fun b u q => Heap.get?_push_of_some _ q) (Nat.le_refl _) ⟨_, e1⟩
  refine I1.laid (a := s.heap.objs.size + 1) (o := .ins C s.heap.objs.size []) (t' := s.toks) (fun b u q => Heap.get?_push_of_some _ q) (Nat.le_of_eq (Heap.size_push _ _)) ?_
  have ne : s.heap.objs.size ≠ s.heap.objs.size + 1 := Nat.ne_of_lt (Nat.lt_succ_self _)
  refine ⟨by rw [upd_ne ne, upd_same], Nat.zero_le _, ne, e2, fun _ => none, (Heap.Ns1.of_empty e3).at fun o q => Heap.get?_push_of_some _ q, fun _ => True.intro, fun y hy => absurd rfl hy⟩

/-- e.f where nothing but the object is asked: through attributeBase (super) and the last hold -/
theorem attr_of {prog : Program} {w : World} {env : Env} {e : Expr} {f : Str} {pos : Pos} {s : Shared} {Q : Value → Shared → Prop} (hb : attributeBase e f env (eval e env) = eval e env)
    (h : wpAny (model prog w) A (eval e env) (fun o s₁ => wpAny (model prog w) A (getAttr o f true) Q E s₁) E s) : wpAny (model prog w) A (eval (.Attribute e f pos) env) Q E s :=
  Attribute_any_ h (by rw [arm_eval_Attribute, hb])
end

/-! ### readings and rules -/
/-- e.f, an attribute of the instance -/
def tFld (K : PySem.W.Frag) (ta : TE) (f : Str) : TE := fun σ H Q => ta σ H fun x H1 => ∃ a C dx fs v, x = .ref a ∧ H1 a = some (.ins C dx fs) ∧ Cls K C ∧ NoAttr K C f ∧ fs.lookup f = some v ∧ Q v H1
/-- e.f, a constant of the class -/
def tCon (K : PySem.W.Frag) (ta : TE) (f : Str) : TE := fun σ H Q => ta σ H fun x H1 => ∃ a C dx fs v u, x = .ref a ∧ H1 a = some (.ins C dx fs) ∧ Cls K C ∧ Con K C f v u ∧ fs.lookup f = none ∧ Q v H1
/-- e.f = value -/
def sFld (K : PySem.W.Frag) (ta tv : TE) (f : Str) : TS := fun D σ H => tv σ H fun y H1 => ta σ H1 fun x H2 => ∃ a C dx fs, x = .ref a ∧ H2 a = some (.ins C dx fs) ∧ Cls K C ∧ NoAttr K C f ∧ fs.length < 1000 ∧
  D.nx σ (upd H2 a (.ins C dx (putF f y fs)))
/-- an augmented operator on two values -/
def InOp (X : Cx) (op : Operator) (rd : V → V → Hp → VK → Prop) : Prop :=
  ∀ (pins : List (Addr × Obj)) (s : Shared) (σ : St) (H : Hp) (x y : V) (u v : Value) (Q : VK), Inv X pins σ H s → RelV x u → RelV y v → rd x y H Q → wpAny (model X.prog X.w) X.A (inplaceOp op u v) (EP X pins σ Q) X.xe s
/-- e.f op= value -/
def sFldAug (K : PySem.W.Frag) (ta tv : TE) (rd : V → V → Hp → VK → Prop) (f : Str) : TS := fun D σ H => ta σ H fun x H1 => ∃ a C dx fs v, x = .ref a ∧ H1 a = some (.ins C dx fs) ∧ Cls K C ∧ NoAttr K C f ∧ fs.lookup f = some v ∧
  tv σ H1 fun y H2 => rd v y H2 fun z H3 => ∃ dx' fs', H3 a = some (.ins C dx' fs') ∧ fs'.length < 1000 ∧ D.nx σ (upd H3 a (.ins C dx' (putF f z fs')))

section
variable {X : Cx} {o e value : Expr} {f : Str} {pos pos' tpos : Pos} {ta tv : TE}
theorem pe_fld (he : PE X e ta) (hb : attributeBase e f X.env (eval e X.env) = eval e X.env) : PE X (.Attribute e f pos) (tFld X.K ta f) := by
  intro pins s σ H Q I h
  refine attr_of hb (thn (he pins s σ H _ I h) fun u s1 ⟨x, H1, I1, rx, a, C, dx, fs, v, ex, ea, c, n, l, q⟩ => ?_)
  subst ex
  obtain rfl : u = Value.ref a := rx
  exact getattr_ok I1 ea c n l fun u' s2 I2 ru => ⟨v, H1, I2, ru, q⟩
theorem pe_con (he : PE X e ta) (hb : attributeBase e f X.env (eval e X.env) = eval e X.env) : PE X (.Attribute e f pos) (tCon X.K ta f) := by
  intro pins s σ H Q I h
  refine attr_of hb (thn (he pins s σ H _ I h) fun u s1 ⟨x, H1, I1, rx, a, C, dx, fs, v, u0, ex, ea, c, k, l, q⟩ => ?_)
  subst ex
  obtain rfl : u = Value.ref a := rx
  exact getcon_ok I1 ea c k l fun s2 I2 => ⟨v, H1, I2, k.rel, q⟩
theorem ps_fld (ha : PE X o ta) (hv : PE X value tv) (hs : swapsWith value (some (.Attribute o f pos')) pos.line X.env = pure false) : PS X (.Assign [.Attribute o f pos'] value pos) (sFld X.K ta tv f) := by
  intro pins s σ H D I h
  refine plainObj_wpAny_Assign_Attribute (thn (hv pins s σ H _ I h) fun u s1 ⟨y, H1, I1, ry, q⟩ => thn (ha pins s1 σ H1 _ I1 q) fun ov s2 ⟨x, H2, I2, rx, a, C, dx, fs, ex, ea, c, n, l, q2⟩ => ?_) hs
  subst ex
  obtain rfl : ov = Value.ref a := rx
  exact setattr_ok I2 ea c n l ry fun s3 I3 => ⟨σ, _, I3, q2⟩
theorem ps_fldaug {op : Operator} {rd : V → V → Hp → VK → Prop} (ha : PE X o ta) (hv : PE X value tv) (hop : InOp X op rd) : PS X (.AugAssign (.Attribute o f tpos) op value pos) (sFldAug X.K ta tv rd f) := by
  intro pins s σ H D I h
  refine wpAny_AugAssign_AttributeAny (thn (ha pins s σ H _ I h) fun ov s1 ⟨x, H1, I1, rx, a, C, dx, fs, v, ex, ea, c, n, l, q⟩ => ?_)
  subst ex
  obtain rfl : ov = Value.ref a := rx
  refine getattr_ok I1 ea c n l fun u s2 I2 ru => thn (hv pins s2 σ H1 _ I2 q) fun w3 s3 ⟨y, H2, I3, ry, q3⟩ => thn (hop pins s3 σ H2 v y u w3 _ I3 ru ry q3) fun w4 s4 ⟨z, H3, I4, rz, dx', fs', ea', l', q4⟩ => ?_
  exact setattr_ok I4 ea' c n l' rz fun s5 I5 => ⟨σ, _, I5, q4⟩
def rAdd : V → V → Hp → VK → Prop := fun x y H Q => ∃ i j, x = .int i ∧ y = .int j ∧ Q (.int (i + j)) H
def rSub : V → V → Hp → VK → Prop := fun x y H Q => ∃ i j, x = .int i ∧ y = .int j ∧ Q (.int (i - j)) H
theorem in_add : InOp X .Add rAdd := by
  rintro pins s σ H x y u v Q I rx ry ⟨i, j, rfl, rfl, q⟩
  obtain ⟨t, rfl⟩ := (show ∃ t, u = Value.int i t from rx)
  obtain ⟨t', rfl⟩ := (show ∃ t', v = Value.int j t' from ry)
  exact PyProof.Rows.iadd_int ⟨.int (i + j), H, I.tok _, ⟨_, rfl⟩, q⟩
theorem in_sub : InOp X .Sub rSub := by
  rintro pins s σ H x y u v Q I rx ry ⟨i, j, rfl, rfl, q⟩
  obtain ⟨t, rfl⟩ := (show ∃ t, u = Value.int i t from rx)
  obtain ⟨t', rfl⟩ := (show ∃ t', v = Value.int j t' from ry)
  exact PyProof.Rows.isub_int ⟨.int (i - j), H, I.tok _, ⟨_, rfl⟩, q⟩

/-- what is between an instance and its method: the tree of a method call -/
theorem methcall_of {pl : Sem Bool} {m : Str} {apos : Pos} {args : List Expr} {pins : List (Addr × Obj)} {s : Shared} {σ : St} {H : Hp} {Q : Value → Shared → Prop} {te : TE} (he : PE X e te) (I : Inv X pins σ H s)
    (h : te σ H fun x H1 => ∃ a C dx fs g, x = .ref a ∧ H1 a = some (.ins C dx fs) ∧ Cls X.K C ∧ Meth X.K C m g ∧ fs.lookup m = none ∧
      ∀ s1, Inv X pins σ H1 s1 → wpAny (model X.prog X.w) X.A (callWith pos (.ref g) [.ref a] (backTo pos (starEach args X.env)) (backToKw pos (keywordEach [] X.env))) Q X.xe s1)
    (ht : eval (.Call (.Attribute e m apos) args [] pos) X.env = (do
      let ov ← eval e X.env
      standAt apos.atName
      let (f, first) ← holding [ov] (getMethod ov m pl)
      callWith pos f first (backTo pos (starEach args X.env)) (backToKw pos (keywordEach [] X.env)))) :
    wpAny (model X.prog X.w) X.A (eval (.Call (.Attribute e m apos) args [] pos) X.env) Q X.xe s := by
  refine PySem.W.methodCall_KW (pl := pl) (thn (he pins s σ H _ I h) fun u s1 ⟨x, H1, I1, rx, a, C, dx, fs, g, ex, ea, c, k, l, q⟩ => ?_) ht
  subst ex
  obtain rfl : u = Value.ref a := rx
  exact getmeth_ok I1 ea c k l (q s1 I1)
end

/-! ### isinstance -/
section
variable {X : Cx} {pins : List (Addr × Obj)} {σ : St} {H : Hp} {s : Shared} {A : Around} {E : Value → Shared → Prop} {Q : Value → Shared → Prop} {c : Value} {b : Bool}
/-- the type of a value, as the fragment's deciders take it; for an instance its class -/
inductive TyOf (K : PySem.W.Frag) (H : Hp) : V → Value → Prop where
  | non : TyOf K H .non (.type "NoneType")
  | bl (x : Bool) : TyOf K H (.bl x) (.type "bool")
  | int (i : Int) : TyOf K H (.int i) (.type "int")
  | str (x : Str) : TyOf K H (.str x) (.type "str")
  | flt (x : UInt64) : TyOf K H (.flt x) (.type "float")
  | lst {a : Addr} {xs : List V} (e : H a = some (.lst xs)) : TyOf K H (.ref a) (.type "list")
  | frz {a : Addr} {o : Obj} {xs : List V} (e : H a = some (.frz o (.lst xs))) : TyOf K H (.ref a) (.type "list")
  | tup {a : Addr} {xs : List V} (e : H a = some (.tup xs)) : TyOf K H (.ref a) (.type "tuple")
  | dK {a : Addr} {kvs : List (Key × V)} (e : H a = some (.dK kvs)) : TyOf K H (.ref a) (.type "dict")
  | dT {a : Addr} {kvs : List (List Key × V)} (e : H a = some (.dT kvs)) : TyOf K H (.ref a) (.type "dict")
  | ins {a C dx : Addr} {fs : List (Str × V)} (e : H a = some (.ins C dx fs)) (cl : Cls K C) (ha : PySem.W.findIn K (.ref C) "__class__" = some (some (.builtin "object.__class__")))
      (hn : PySem.W.specialIn K (.builtin "object.__class__") "__get__" = some (some (.builtin "getset_descriptor.__get__"))) (htk : PySem.W.takesIn K (.builtin "object.__class__") = some true)
      (hm : PySem.W.mroIn K C (.type "object") = some true) : TyOf K H (.ref a) (.ref C)
/-- isinstance(x, c) for one class c, a built-in or an own one: kitOne's answer -/
theorem isinst_ok {x : V} {u t : Value} (I : Inv X pins σ H s) (rx : RelV x u) (ty : TyOf X.K H x t) (e : PySem.W.kitOne X.K t c = some b) (h : ∀ tk, Q (.bool b) { s with toks := tk }) :
    wpAny (model X.prog X.w) A (call (.builtin "isinstance") [u, c]) Q E s := by
  cases ty with
  | non => cases (show u = Value.none from rx); exact PySem.W.kia_one PySem.W.kitx_none I.kIn True.intro e (fun z => nomatch z) h
  | bl y => cases (show u = Value.bool y from rx); exact PySem.W.kia_one PySem.W.kitx_bool I.kIn True.intro e (fun z => nomatch z) h
  | int i => obtain ⟨t, q⟩ := (show ∃ t, u = Value.int i t from rx); cases q; exact PySem.W.kia_one PySem.W.kitx_int I.kIn True.intro e (fun z => nomatch z) h
  | str y => obtain ⟨t, q⟩ := (show ∃ t, u = Value.str y t from rx); cases q; exact PySem.W.kia_one PySem.W.kitx_str I.kIn True.intro e (fun z => nomatch z) h
  | flt y => obtain ⟨t, q⟩ := (show ∃ t, u = Value.float y t from rx); cases q; exact PySem.W.kia_one PySem.W.kitx_float I.kIn True.intro e (fun z => nomatch z) h
  | @lst a xs ea =>
    cases (show u = Value.ref a from rx)
    obtain ⟨_, _, n, _, h1⟩ := (show ObjOk X.prog X.w H s.heap a (.lst xs) from I.hok a _ ea)
    exact PySem.W.kia_one PySem.W.kitx_list I.kIn ⟨_, h1, rfl⟩ e (fun z => nomatch z) h
  | @frz a ob xs ea =>
    cases (show u = Value.ref a from rx)
    obtain ⟨_, _, _, n, _, h1⟩ := (show ObjOk X.prog X.w H s.heap a (.frz ob (.lst xs)) from I.hok a _ ea)
    exact PySem.W.kia_one PySem.W.kitx_list I.kIn ⟨_, h1, rfl⟩ e (fun z => nomatch z) h
  | @tup a xs ea =>
    cases (show u = Value.ref a from rx)
    obtain ⟨_, _, _, p⟩ := (show ObjOk X.prog X.w H s.heap a (.tup xs) from I.hok a _ ea)
    obtain ⟨o, h1, h2, _⟩ := p
    exact PySem.W.kia_one PySem.W.kitx_tuple I.kIn ⟨o, h1, h2⟩ e (fun z => nomatch z) h
  | @dK a kvs ea =>
    cases (show u = Value.ref a from rx)
    obtain ⟨_, _, vs, _, p⟩ := (show ObjOk X.prog X.w H s.heap a (.dK kvs) from I.hok a _ ea)
    obtain ⟨o, es, ep, h1, h2, _⟩ := p
    exact PySem.W.kia_one PySem.W.kitx_dict I.kIn ⟨o, h1, h2.1⟩ e (fun z => nomatch z) h
  | @dT a kvs ea =>
    cases (show u = Value.ref a from rx)
    obtain ⟨_, _, xs, _, o, es, ep, h1, h2, _⟩ := (show ObjOk X.prog X.w H s.heap a (.dT kvs) from I.hok a _ ea)
    exact PySem.W.kia_one PySem.W.kitx_dict I.kIn ⟨o, h1, h2.1⟩ e (fun z => nomatch z) h
  | @ins a C dx fs ea cl ha hn htk hm =>
    cases (show u = Value.ref a from rx)
    obtain ⟨mA, O, _⟩ := ins_get I.hok ea
    obtain ⟨od, J, _⟩ := O.look
    exact PySem.W.kia_one (PySem.W.kitx_own (cl.get _) cl.hd ha hn htk hm) I.kIn J e (fun z => nomatch z) h
end
end L2

namespace L2
open PySem PySem.Spec PyProof.Rows

/-! ### room -/
structure Room (k : Nat) (A : Around) : Prop where
  hd : A.handled = none
  dp : A.depth + 3 * k + 5 < recursionLimit
  un : A.units + 16 * k + 200 < cLine
theorem Room.mono {j k : Nat} {A : Around} (r : Room k A) (h : j ≤ k) : Room j A := ⟨r.hd, by have := r.dp; omega, by have := r.un; omega⟩
theorem Room.deeper {k : Nat} {A : Around} (r : Room (k + 1) A) (env : Env) : Room k (A.deeper env) :=
  ⟨r.hd, by have := r.dp; show A.depth + 1 + 3 * k + 5 < _; omega, by have := r.un; show A.units + 3 + 16 * k + 200 < _; omega⟩
theorem Room.in1 {k : Nat} {A : Around} (r : Room (k + 1) A) : Room k A.in1 :=
  ⟨r.hd, by have := r.dp; show A.depth + 3 * k + 5 < _; omega, by have := r.un; show A.units + 1 + 16 * k + 200 < _; omega⟩
theorem make_depth {A : Around} {C : Addr} {us : List Value} {kw : List (Str × Value)} : (A.under (.builtin "type.__call__" ⟨.ref C :: us, kw⟩)).depth = A.depth + 1 := by
  first | rfl | simp [Around.under, Code.weight, Code.isCreation, Code.isGuard, Code.isCaller, Code.frames, Code.isFrame, guardIds]
theorem make_units {A : Around} {C : Addr} {us : List Value} {kw : List (Str × Value)} : (A.under (.builtin "type.__call__" ⟨.ref C :: us, kw⟩)).units = A.units + 1 := by
  first | rfl | simp [Around.under, Code.cUnits, Code.frames, Code.isFrame]
theorem Room.make {k : Nat} {A : Around} (r : Room (k + 1) A) (C : Addr) (us : List Value) (kw : List (Str × Value)) : Room k (A.under (.builtin "type.__call__" ⟨.ref C :: us, kw⟩)) :=
  ⟨r.hd, by have := r.dp; rw [make_depth]; omega, by have := r.un; rw [make_units]; omega⟩
theorem Room.depth {k : Nat} {A : Around} (r : Room k A) : A.depth < recursionLimit := by have := r.dp; omega
theorem Room.units {k : Nat} {A : Around} (r : Room k A) : A.units + 64 < cLine := by have := r.un; omega
theorem Room.units0 {k : Nat} {A : Around} (r : Room k A) : A.units < cLine := by have := r.un; omega

/-! ### argument lists and displays -/
def tNil : TA := fun _ H Q => Q [] H
def tCons (ta : TE) (tr : TA) : TA := fun σ H Q => ta σ H fun x H1 => tr σ H1 fun xs H2 => Q (x :: xs) H2
section
variable {X : Cx} {e : Expr} {es : List Expr} {te : TE} {t : TA} {pos : Pos}
theorem pa_nil : PA X [] tNil := fun _ _ _ _ H Q I h => Calls.spliced_nil ⟨[], H, I, .nil, h⟩
theorem pa_cons (ha : PE X e te) (hr : PA X es t) (hs : starEach (e :: es) X.env = (false, eval e X.env) :: starEach es X.env := by rfl) : PA X (e :: es) (tCons te t) := by
  intro pos pins s σ H Q I h
  rw [hs]
  show wpAny _ _ (spliced ((false, eval e X.env) :: backTo pos (starEach es X.env))) _ _ s
  refine Calls.spliced_cons (thn (ha pins s σ H _ I h) fun u s1 ⟨x, H1, I1, r1, q1⟩ => ?_)
  exact thn (hr pos pins s1 σ H1 _ I1 q1) fun us s2 ⟨xs, H2, I2, r2, q2⟩ => ⟨x :: xs, H2, I2, .cons r1 r2, q2⟩

/-- a tuple, a list of written items -/
def tTup (t : TA) : TE := fun σ H Q => t σ H fun xs H1 => xs.length ≤ sizeLine ∧ ∀ p, H1 p = none → Q (.ref p) (upd H1 p (.tup xs))
def tLst (t : TA) : TE := fun σ H Q => t σ H fun xs H1 => xs.length ≤ sizeLine ∧ ∀ p, H1 p = none → Q (.ref p) (upd H1 p (.lst xs))
theorem pe_tup {x1} (h : PA X es t) : PE X (.Tuple es x1 pos) (tTup t) := by
  intro pins s σ H Q I hq
  refine wpAny_Tuple_spliced (thn (h pos pins s σ H _ I hq) fun us s1 ⟨xs, H1, I1, r, z, q⟩ => ⟨by rw [← r.length]; exact z, ?_⟩)
  have hf : H1 s1.heap.objs.size = none := I1.hok.fresh (Nat.le_refl _)
  refine ⟨.ref s1.heap.objs.size, upd H1 s1.heap.objs.size (.tup xs), I1.laid (t' := s1.toks) (fun b u e => Heap.get?_push_of_some _ e) (Nat.le_refl _) ?_, rfl, q _ hf⟩
  exact ⟨z, us, r, ⟨_, Heap.get?_push_size _ rfl, rfl, _, rfl⟩⟩
theorem pe_lst (h : PA X es t) : PE X (.List es pos) (tLst t) := by
  intro pins s σ H Q I hq
  refine wpAny_List_spliced (thn (h pos pins s σ H _ I hq) fun us s1 ⟨xs, H1, I1, r, z, q⟩ => ⟨by rw [← r.length]; exact z, ?_⟩)
  have hf : H1 s1.heap.objs.size = none := I1.hok.fresh (Nat.le_refl _)
  refine ⟨.ref s1.heap.objs.size, upd H1 s1.heap.objs.size (.lst xs), I1.laid (t' := s1.toks) (fun b u e => Heap.get?_push_of_some _ e) (Nat.le_refl _) ?_, rfl, q _ hf⟩
  exact ⟨z, us, 0, r, Heap.get?_push_size _ rfl⟩
end

/-! ### what a def promises -/
/-- a def's promise: the bound arguments in the parameters' order, the heap, the wanted end, the wanted exception -/
abbrev Sp := List V → Hp → VK → XK → Prop
/-- how an exception lies behind a call (file 08 gives it): the callers' frames, abstract heap and state ahead of the call, the wish, the exception, the state -/
abbrev CXT := List Env → Hp → Shared → XK → Value → Shared → Prop

/-- the state at a call -/
structure Env0 (P : Program) (w : World) (K : PySem.W.Frag) (mg : Str → Option Value) (base : Heap) (A : Around) (outer : List Env) (s : Shared) (H : Hp) : Prop where
  frames : A.frames = some outer
  mod : Mod K mg base
  bs : ∀ b o, base.get? b = some o → s.heap.get? b = some o ∧ H b = none
  bsz : base.objs.size ≤ s.heap.objs.size
  funs : s.heap.FunFrames base outer
  frf : ∀ b ∈ frs outer, H b = none
  hok : HOk P w H s.heap
  bare : AllBare s.gens
/-- a call's end -/
def CE (outer : List Env) (P : Program) (w : World) (H : Hp) (s : Shared) (Q : VK) (u : Value) (s' : Shared) : Prop :=
  ∃ v H', s'.os = s.os ∧ AllBare s'.gens ∧ Un (frs outer) [] H H' s.heap s'.heap ∧ HOk P w H' s'.heap ∧ RelV v u ∧ Q v H'
def CR (CX : CXT) (outer : List Env) (P : Program) (w : World) (H : Hp) (s : Shared) (Q : VK) (E : XK) (r : Result) (s' : Shared) : Prop :=
  match r with
  | .ok (.ret u) => CE outer P w H s Q u s'
  | .ok _ => False
  | .error e => CX outer H s E e s'
structure FnOk (P : Program) (w : World) (K : PySem.W.Frag) (mg : Str → Option Value) (base : Heap) (CX : CXT) (k : Nat) (f : Addr) (fd : FuncData) (ps : List Str) (sp : Sp) : Prop where
  len : ∀ vs H Q E, sp vs H Q E → vs.length = ps.length
  run : ∀ (A : Around) (outer : List Env) (s : Shared) (H : Hp) (args : Args) (us : List Value) (vs : List V) (Q : VK) (E : XK), Room k A → Env0 P w K mg base A outer s H → BindsTo s fd args (ps.zip us) → Vals vs us → sp vs H Q E →
    codeAny (model P w) A (.call (.ref f) args) (CR CX outer P w H s Q E) s
theorem FnOk.mono {P : Program} {w : World} {K : PySem.W.Frag} {mg : Str → Option Value} {base : Heap} {CX : CXT} {j k : Nat} {f : Addr} {fd : FuncData} {ps : List Str} {sp : Sp} (F : FnOk P w K mg base CX j f fd ps sp) (h : j ≤ k) :
    FnOk P w K mg base CX k f fd ps sp := ⟨F.len, fun A outer s H args us vs Q E hr => F.run A outer s H args us vs Q E (hr.mono h)⟩
/-- a weaker promise -/
theorem FnOk.imp {P : Program} {w : World} {K : PySem.W.Frag} {mg : Str → Option Value} {base : Heap} {CX : CXT} {k : Nat} {f : Addr} {fd : FuncData} {ps : List Str} {sp sp' : Sp} (F : FnOk P w K mg base CX k f fd ps sp)
    (h : ∀ vs H Q E, sp' vs H Q E → sp vs H Q E) : FnOk P w K mg base CX k f fd ps sp' :=
  ⟨fun vs H Q E q => F.len vs H Q E (h _ _ _ _ q), fun A outer s H args us vs Q E hr he hb hv hs => F.run A outer s H args us vs Q E hr he hb hv (h _ _ _ _ hs)⟩

theorem Env0.make {P : Program} {w : World} {K : PySem.W.Frag} {mg : Str → Option Value} {base : Heap} {A : Around} {outer : List Env} {s : Shared} {H : Hp} (e : Env0 P w K mg base A outer s H) (C : Addr) (us : List Value) (kw : List (Str × Value)) :
    Env0 P w K mg base (A.under (.builtin "type.__call__" ⟨.ref C :: us, kw⟩)) outer s H := ⟨by first | exact e.frames | (simpa [Around.under, Code.envs, Code.isFrame, pushEnvs] using e.frames), e.mod, e.bs, e.bsz, e.funs, e.frf, e.hok, e.bare⟩
theorem Env0.in1 {P : Program} {w : World} {K : PySem.W.Frag} {mg : Str → Option Value} {base : Heap} {A : Around} {outer : List Env} {s : Shared} {H : Hp} (e : Env0 P w K mg base A outer s H) :
    Env0 P w K mg base A.in1 outer s H := ⟨e.frames, e.mod, e.bs, e.bsz, e.funs, e.frf, e.hok, e.bare⟩

section
variable {X : Cx} {pins : List (Addr × Obj)} {σ : St} {H : Hp} {s s' : Shared}
/-- from a body: what a callee wants -/
theorem Inv.env0 (I : Inv X pins σ H s) : Env0 X.prog X.w X.K X.mg X.base X.A X.stack s H :=
  ⟨I.ok.frames, I.ok.mod, I.bs, Nat.le_trans I.ok.bsz I.sz, I.stack, I.stkFree, I.hok, I.bare⟩
/-- behind a call -/
theorem Inv.after {Q : VK} {u : Value} (I : Inv X pins σ H s) (h : CE X.stack X.prog X.w H s Q u s') : EP X pins σ Q u s' := by
  obtain ⟨v, H', os, bare, un, hok, r, q⟩ := h
  obtain ⟨hh, g, d, t, os'⟩ := s'
  obtain rfl : os' = s.os := os
  exact ⟨v, H', I.call (h' := hh) (g' := g) (d' := d) (t' := t) (ch := []) un hok bare (fun b z => absurd z (by simp)), r, q⟩
end

/-! ### calls -/
/-- f(..): the written arguments, then the defaults dvs; E: what is wanted of an exception -/
def tCall (sp : Sp) (dvs : List V) (E : XK) (t : TA) : TE := fun σ H Q => t σ H fun vs H1 => sp (vs ++ dvs) H1 Q E
/-- o.m(..) of an instance of the class at C -/
def tMeth (C : Addr) (m : Str) (sp : Sp) (dvs : List V) (E : XK) (ta : TE) (t : TA) : TE := fun σ H Q => ta σ H fun x H1 => ∃ a dx fs, x = .ref a ∧ H1 a = some (.ins C dx fs) ∧ fs.lookup m = none ∧
  t σ H1 fun vs H2 => sp (x :: (vs ++ dvs)) H2 Q E
/-- C(..): a new instance and its dict, then __init__ -/
def tMake (C : Addr) (sp : Sp) (dvs : List V) (E : XK) (t : TA) : TE := fun σ H Q => t σ H fun vs H1 => ∀ x dx, H1 x = none → H1 dx = none → dx ≠ x →
  sp (.ref x :: (vs ++ dvs)) (upd (upd H1 dx (.own x)) x (.ins C dx [])) (fun v H2 => v = .non ∧ Q (.ref x) H2) E

/-- how the parameters are bound: us the positional arguments, kw the keywords' values by name, ds the defaults that fill up -/
def Binds (K : PySem.W.Frag) (fd : FuncData) (ps : List Str) (ds : List Value) : Prop :=
  ∀ (s : Shared) (us : List Value), K.In s.heap → (us ++ ds).length = ps.length → BindsTo s fd ⟨us, []⟩ (ps.zip (us ++ ds))
/-- every parameter is given -/
theorem Binds.all {K : PySem.W.Frag} {fd : FuncData} {ps : List Str} (h : ∀ us : List Value, us.length = ps.length → bindArgs fd ⟨us, []⟩ = pure (ps.zip us)) : Binds K fd ps [] := fun s us _ hl => by
  rw [List.append_nil] at hl ⊢
  exact .of_eq (h us hl)

/-- an exception of a callee reaches what this body wants of exceptions -/
def Passes (CX : CXT) (X : Cx) (E : XK) : Prop := ∀ (pins : List (Addr × Obj)) (σ : St) (H : Hp) (s : Shared) (e : Value) (s' : Shared), Inv X pins σ H s → CX X.stack H s E e s' → X.xe e s'

section
variable {X : Cx} {CX : CXT} {k : Nat} {f C : Addr} {fd : FuncData} {ps : List Str} {sp : Sp} {dvs : List V} {ds : List Value} {E : XK} {x m : Str} {p pos apos : Pos} {e o : Expr} {es : List Expr} {ta : TE} {t : TA}

/-- the callee runs -/
theorem run_fn {pins : List (Addr × Obj)} {σ : St} {H : Hp} {s : Shared} {Q : VK} {us : List Value} {vs : List V} (F : FnOk X.prog X.w X.K X.mg X.base CX k f fd ps sp) (hr : Room k X.A) (hb : Binds X.K fd ps ds) (hd : Vals dvs ds) (hx : Passes CX X E)
    (I : Inv X pins σ H s) (r : Vals vs us) (h : sp (vs ++ dvs) H Q E) : wpAny (model X.prog X.w) X.A (call (.ref f) us) (EP X pins σ Q) X.xe s := by
  have r2 : Vals (vs ++ dvs) (us ++ ds) := r.append hd
  have hl : (us ++ ds).length = ps.length := by rw [← r2.length]; exact F.len _ _ _ _ h
  refine wpAny_call (codeAny_mono (F.run X.A X.stack s H ⟨us, []⟩ (us ++ ds) (vs ++ dvs) Q E hr I.env0 (hb s us I.kIn hl) r2 h) fun r s' hq => ?_)
  cases r with
  | error e => exact hx pins σ H s e s' I hq
  | ok fl =>
    cases fl with
    | ret u => exact I.after hq
    | next => exact False.elim hq
    | brk => exact False.elim hq
    | cont => exact False.elim hq

theorem pe_call (F : FnOk X.prog X.w X.K X.mg X.base CX k f fd ps sp) (hr : Room k X.A) (hg : Gl X x) (hm : X.mg x = some (.ref f)) (hk : PySem.W.keepIn X.K (.ref f) = true) (hb : Binds X.K fd ps ds) (hd : Vals dvs ds) (hx : Passes CX X E)
    (ha : PA X (e :: es) t) (hdb : (x == ("__debug__" : Str)) = false := by decide) (he : starEach (e :: es) X.env = (false, eval e X.env) :: starEach es X.env := by rfl) (hpl : (backTo pos (starEach es X.env)).any (·.1) = false := by rfl) :
    PE X (.Call (.Name x p) (e :: es) [] pos) (tCall sp dvs E t) := by
  intro pins s σ H Q I h
  refine wpAny_Call_Name_kw (ld_glob I hg hm ?_ hdb)
  refine PySem.W.callWith_K (h₀ := X.base) I.ok.mod.kin hk (thn (ha pos pins s σ H _ I h) fun us s1 ⟨vs, H1, I1, r, q⟩ => ⟨I1.kIn, ?_⟩) he hpl
  exact run_fn F hr hb hd hx I1 r q
theorem pe_call0 (F : FnOk X.prog X.w X.K X.mg X.base CX k f fd ps sp) (hr : Room k X.A) (hg : Gl X x) (hm : X.mg x = some (.ref f)) (hk : PySem.W.keepIn X.K (.ref f) = true) (hb : Binds X.K fd ps ds) (hd : Vals dvs ds) (hx : Passes CX X E)
    (hdb : (x == ("__debug__" : Str)) = false := by decide) : PE X (.Call (.Name x p) [] [] pos) (tCall sp dvs E tNil) := by
  intro pins s σ H Q I h
  refine wpAny_Call_Name_kw (ld_glob I hg hm ?_ hdb)
  exact PySem.W.callWith_K0 I.kIn hk (run_fn (us := []) F hr hb hd hx I .nil h)

/-- o.m(e, ..) -/
theorem pe_meth {pl : Sem Bool} (he : PE X o ta) (c : Cls X.K C) (hm : Meth X.K C m f) (F : FnOk X.prog X.w X.K X.mg X.base CX k f fd ps sp) (hr : Room k X.A) (hb : Binds X.K fd ps ds) (hd : Vals dvs ds) (hx : Passes CX X E) (ha : PA X (e :: es) t)
    (hst : starEach (e :: es) X.env = (false, eval e X.env) :: starEach es X.env := by rfl) (hpl : (backTo pos (starEach es X.env)).any (·.1) = false := by rfl)
    (ht : eval (.Call (.Attribute o m apos) (e :: es) [] pos) X.env = (do
      let ov ← eval o X.env
      standAt apos.atName
      let (f, first) ← holding [ov] (getMethod ov m pl)
      callWith pos f first (backTo pos (starEach (e :: es) X.env)) (backToKw pos (keywordEach [] X.env))) := by rfl) :
    PE X (.Call (.Attribute o m apos) (e :: es) [] pos) (tMeth C m sp dvs E ta t) := by
  intro pins s σ H Q I h
  refine PySem.W.methodCall_KW (pl := pl) (thn (he pins s σ H _ I h) fun u s1 ⟨x, H1, I1, rx, a, dx, fs, ex, ea, l, q⟩ => ?_) ht
  subst ex
  obtain rfl : u = Value.ref a := rx
  refine getmeth_ok I1 ea c hm l ?_
  refine PySem.W.callWith_K (first := [.ref a]) (h₀ := X.base) I.ok.mod.kin hm.kp (thn (ha pos pins s1 σ H1 _ I1 q) fun us s2 ⟨vs, H2, I2, r, q2⟩ => ⟨I2.kIn, ?_⟩) hst hpl
  exact run_fn (us := .ref a :: us) (vs := .ref a :: vs) F hr hb hd hx I2 (.cons rfl r) q2
/-- o.m() -/
theorem pe_meth0 {pl : Sem Bool} (he : PE X o ta) (c : Cls X.K C) (hm : Meth X.K C m f) (F : FnOk X.prog X.w X.K X.mg X.base CX k f fd ps sp) (hr : Room k X.A) (hb : Binds X.K fd ps ds) (hd : Vals dvs ds) (hx : Passes CX X E)
    (ht : eval (.Call (.Attribute o m apos) [] [] pos) X.env = (do
      let ov ← eval o X.env
      standAt apos.atName
      let (f, first) ← holding [ov] (getMethod ov m pl)
      callWith pos f first (backTo pos (starEach [] X.env)) (backToKw pos (keywordEach [] X.env))) := by rfl) :
    PE X (.Call (.Attribute o m apos) [] [] pos) (tMeth C m sp dvs E ta tNil) := by
  intro pins s σ H Q I h
  refine PySem.W.methodCall_KW (pl := pl) (thn (he pins s σ H _ I h) fun u s1 ⟨x, H1, I1, rx, a, dx, fs, ex, ea, l, q⟩ => ?_) ht
  subst ex
  obtain rfl : u = Value.ref a := rx
  refine getmeth_ok I1 ea c hm l ?_
  exact PySem.W.callWith_K0 (first := [.ref a]) I1.kIn hm.kp (run_fn (us := [.ref a]) (vs := [.ref a]) F hr hb hd hx I1 (.cons rfl .nil) q)

/-- what a class must have to be made -/
structure Mk (K : PySem.W.Frag) (C f : Addr) : Prop where
  makes : PySem.W.makesIn K C = true
  init : PySem.W.findIn K (.ref C) "__init__" = some (some (.ref f))
  fn : PySem.W.isFn K (.ref f) = true
  kp : PySem.W.keepIn K (.ref C) = true

theorem run_make {pins : List (Addr × Obj)} {σ : St} {H : Hp} {s : Shared} {Q : VK} {us : List Value} {vs : List V} (M : Mk X.K C f) (F : FnOk X.prog X.w X.K X.mg X.base CX k f fd ps sp) (hr : Room (k + 1) X.A) (hb : Binds X.K fd ps ds) (hd : Vals dvs ds)
    (hx : Passes CX X E) (I : Inv X pins σ H s) (r : Vals vs us)
    (h : ∀ x dx, H x = none → H dx = none → dx ≠ x → sp (.ref x :: (vs ++ dvs)) (upd (upd H dx (.own x)) x (.ins C dx [])) (fun v H2 => v = .non ∧ Q (.ref x) H2) E) :
    wpAny (model X.prog X.w) X.A (call (.ref C) us) (EP X pins σ Q) X.xe s := by
  have hq := h (s.heap.objs.size + 1) s.heap.objs.size (I.hok.fresh (Nat.le_succ _)) (I.hok.fresh (Nat.le_refl _)) (Nat.ne_of_lt (Nat.lt_succ_self _))
  have I2 := Inv.made (C := C) I
  have r2 : Vals (V.ref (s.heap.objs.size + 1) :: (vs ++ dvs)) (Value.ref (s.heap.objs.size + 1) :: (us ++ ds)) := .cons rfl (r.append hd)
  have hl : (Value.ref (s.heap.objs.size + 1) :: us ++ ds).length = ps.length := by
    have e := r2.length
    rw [F.len _ _ _ _ hq] at e
    exact e.symm
  refine wpAny_call (make_map (f := f) I.kIn M.makes M.init (beq_iff_eq.mp M.fn) (codeAny_mono (F.run _ X.stack _ _ ⟨Value.ref (s.heap.objs.size + 1) :: us, []⟩ (Value.ref (s.heap.objs.size + 1) :: (us ++ ds)) _ _ E (hr.make C us [])
    (I2.env0.make C us []) (hb _ (Value.ref (s.heap.objs.size + 1) :: us) I2.kIn hl) r2 hq) fun r s' hq' => ?_))
  cases r with
  | error e => exact hx pins σ _ _ e s' I2 hq'
  | ok fl =>
    cases fl with
    | ret u =>
      obtain ⟨v, H', I3, rv, ev, q3⟩ := I2.after hq'
      subst ev
      exact ⟨rv, ⟨V.ref (s.heap.objs.size + 1), H', I3, rfl, q3⟩⟩
    | next => exact False.elim hq'
    | brk => exact False.elim hq'
    | cont => exact False.elim hq'
theorem pe_make (M : Mk X.K C f) (F : FnOk X.prog X.w X.K X.mg X.base CX k f fd ps sp) (hr : Room (k + 1) X.A) (hg : Gl X x) (hm : X.mg x = some (.ref C)) (hb : Binds X.K fd ps ds) (hd : Vals dvs ds) (hx : Passes CX X E)
    (ha : PA X (e :: es) t) (hdb : (x == ("__debug__" : Str)) = false := by decide) (he : starEach (e :: es) X.env = (false, eval e X.env) :: starEach es X.env := by rfl) (hpl : (backTo pos (starEach es X.env)).any (·.1) = false := by rfl) :
    PE X (.Call (.Name x p) (e :: es) [] pos) (tMake C sp dvs E t) := by
  intro pins s σ H Q I h
  refine wpAny_Call_Name_kw (ld_glob I hg hm ?_ hdb)
  refine PySem.W.callWith_K (h₀ := X.base) I.ok.mod.kin M.kp (thn (ha pos pins s σ H _ I h) fun us s1 ⟨vs, H1, I1, r, q⟩ => ⟨I1.kIn, ?_⟩) he hpl
  exact run_make M F hr hb hd hx I1 r q
theorem pe_make0 (M : Mk X.K C f) (F : FnOk X.prog X.w X.K X.mg X.base CX k f fd ps sp) (hr : Room (k + 1) X.A) (hg : Gl X x) (hm : X.mg x = some (.ref C)) (hb : Binds X.K fd ps ds) (hd : Vals dvs ds) (hx : Passes CX X E)
    (hdb : (x == ("__debug__" : Str)) = false := by decide) : PE X (.Call (.Name x p) [] [] pos) (tMake C sp dvs E tNil) := by
  intro pins s σ H Q I h
  refine wpAny_Call_Name_kw (ld_glob I hg hm ?_ hdb)
  exact PySem.W.callWith_K0 I.kIn M.kp (run_make (us := []) M F hr hb hd hx I .nil h)
end

/-! ### keywords -/
/-- the values of the keywords, from the left -/
def PK (X : Cx) (kws : List Keyword) (t : TA) : Prop :=
  ∀ (pos : Pos) (pins : List (Addr × Obj)) (s : Shared) (σ : St) (H : Hp) (Q : List V → Hp → Prop), Inv X pins σ H s → t σ H Q → wpAny (model X.prog X.w) X.A (evalAll ((backToKw pos (keywordEach kws X.env)).map (·.2))) (AP X pins σ Q) X.xe s
section
variable {X : Cx} {CX : CXT} {k : Nat} {f C : Addr} {fd : FuncData} {ps ks : List Str} {sp : Sp} {E : XK} {x m : Str} {p pos apos kpos : Pos} {e o : Expr} {es : List Expr} {kws : List Keyword} {te ta : TE} {t tk : TA} {nm : Option Str}
theorem pk_nil : PK X [] tNil := fun _ _ _ _ H Q I h => wpAny_evalAll_nil ⟨[], H, I, .nil, h⟩
theorem pk_cons (ha : PE X e te) (hr : PK X kws t) : PK X (⟨nm, e, kpos⟩ :: kws) (tCons te t) := by
  intro pos pins s σ H Q I h
  show wpAny _ _ (evalAll ((do let v ← eval e X.env; standAt pos; pure v) :: (backToKw pos (keywordEach kws X.env)).map (·.2))) _ _ s
  refine wpAny_evalAll_cons (wpAny_bind (thn (ha pins s σ H _ I h) fun u s1 ⟨x, H1, I1, r1, q1⟩ => wpAny_bind (wpAny_standAt (wpAny_pure ?_))))
  exact thn (hr pos pins s1 σ H1 _ I1 q1) fun us s2 ⟨xs, H2, I2, r2, q2⟩ => ⟨x :: xs, H2, I2, .cons r1 r2, q2⟩

/-- how a call with keywords binds: g puts the positional values us and the keywords' values ws (names ks) in the parameters' order, defaults among them -/
structure KBinds (K : PySem.W.Frag) (fd : FuncData) (ps ks : List Str) (g : List Value → List Value → List Value) (gV : List V → List V → List V) : Prop where
  to : ∀ (s : Shared) (us ws : List Value), K.In s.heap → (g us ws).length = ps.length → BindsTo s fd ⟨us, ks.zip ws⟩ (ps.zip (g us ws))
  rel : ∀ {vs : List V} {us : List Value} {zs : List V} {ws : List Value}, Vals vs us → Vals zs ws → Vals (gV vs zs) (g us ws)
def tCallK (sp : Sp) (gV : List V → List V → List V) (E : XK) (t tk : TA) : TE := fun σ H Q => t σ H fun vs H1 => tk σ H1 fun zs H2 => sp (gV vs zs) H2 Q E
variable {g : List Value → List Value → List Value} {gV : List V → List V → List V}
theorem run_fnk {pins : List (Addr × Obj)} {σ : St} {H : Hp} {s : Shared} {Q : VK} {us ws : List Value} {vs zs : List V} (F : FnOk X.prog X.w X.K X.mg X.base CX k f fd ps sp) (hr : Room k X.A) (hb : KBinds X.K fd ps ks g gV) (hx : Passes CX X E)
    (I : Inv X pins σ H s) (r : Vals vs us) (rz : Vals zs ws) (h : sp (gV vs zs) H Q E) : wpAny (model X.prog X.w) X.A (call (.ref f) us (ks.zip ws)) (EP X pins σ Q) X.xe s := by
  have r2 := hb.rel r rz
  have hl : (g us ws).length = ps.length := by rw [← r2.length]; exact F.len _ _ _ _ h
  refine wpAny_call (codeAny_mono (F.run X.A X.stack s H ⟨us, ks.zip ws⟩ (g us ws) (gV vs zs) Q E hr I.env0 (hb.to s us ws I.kIn hl) r2 h) fun r s' hq => ?_)
  cases r with
  | error e => exact hx pins σ H s e s' I hq
  | ok fl =>
    cases fl with
    | ret u => exact I.after hq
    | next => exact False.elim hq
    | brk => exact False.elim hq
    | cont => exact False.elim hq
/-- f(e, .., k = v, ..) -/
theorem pe_callK (F : FnOk X.prog X.w X.K X.mg X.base CX k f fd ps sp) (hr : Room k X.A) (hg : Gl X x) (hm : X.mg x = some (.ref f)) (hk : PySem.W.keepIn X.K (.ref f) = true) (hb : KBinds X.K fd ps ks g gV) (hx : Passes CX X E)
    (ha : PA X (e :: es) t) (hkw : PK X kws tk) (hall : (backToKw pos (keywordEach kws X.env)).all (·.1.isSome) = true := by rfl) (hks : (backToKw pos (keywordEach kws X.env)).filterMap (·.1) = ks := by rfl)
    (hdb : (x == ("__debug__" : Str)) = false := by decide) (he : starEach (e :: es) X.env = (false, eval e X.env) :: starEach es X.env := by rfl)
    (hpl : ((backTo pos (starEach (e :: es) X.env)).any (·.1) || (backToKw pos (keywordEach kws X.env)).any (·.1.isNone)) = false := by rfl) :
    PE X (.Call (.Name x p) (e :: es) kws pos) (tCallK sp gV E t tk) := by
  intro pins s σ H Q I h
  refine wpAny_Call_Name_kw (ld_glob I hg hm ?_ hdb)
  refine PySem.W.callWith_KW (h₀ := X.base) I.ok.mod.kin hk hall (thn (ha pos pins s σ H _ I h) fun us s1 ⟨vs, H1, I1, r, q⟩ => ?_) hpl he
  refine thn (hkw pos pins s1 σ H1 _ I1 q) fun ws s2 ⟨zs, H2, I2, rz, q2⟩ => ⟨I2.kIn, ?_⟩
  rw [hks]
  exact run_fnk F hr hb hx I2 r rz q2
end

/-! ### a def's body keeps its promise -/
/-- names: the parameters first -/
structure FnScope (N P : List Str) (sc : Scope) : Prop where
  kind : sc.kind = .function
  co : sc.isCoroutine = false
  gen : sc.isGenerator = false
  nd : N.Nodup
  pre : N.take P.length = P
  par : ∀ x ∈ P, sc.names.lookup x = some .local ∨ sc.names.lookup x = some .cell
  nofree : ∀ y ∈ sc.names, y.2 ≠ .free

theorem bindL_out {kindOf : Str → Option NameKind} {x : Str} : ∀ {binds : List (Str × Value)} {m : Str → Option Value}, (∀ v, (x, v) ∉ binds) → bindL kindOf binds m x = m x
  | [], _, _ => rfl
  | (n, v) :: r, m, h => by
    unfold bindL
    rw [bindL_out fun w hw => h w (List.mem_cons_of_mem _ hw)]
    split
    · have : x ≠ n := by rintro rfl; exact h v List.mem_cons_self
      simp [this]
    · rfl
theorem bindC_out {kindOf : Str → Option NameKind} {x : Str} : ∀ {binds : List (Str × Value)} {m : Str → Option Value}, (∀ v, (x, v) ∉ binds) → bindC kindOf binds m x = m x
  | [], _, _ => rfl
  | (n, v) :: r, m, h => by
    unfold bindC
    rw [bindC_out fun w hw => h w (List.mem_cons_of_mem _ hw)]
    split
    · rfl
    · have : x ≠ n := by rintro rfl; exact h v List.mem_cons_self
      simp [this]
theorem bindL_get {kindOf : Str → Option NameKind} {x : Str} {v : Value} : ∀ {P : List Str} {vs : List Value} {i : Nat} {m : Str → Option Value}, P.Nodup → P[i]? = some x → vs[i]? = some v → kindOf x = some .local →
    bindL kindOf (P.zip vs) m x = some v
  | [], _, _, _, _, h, _, _ => by simp at h
  | _ :: _, [], _, _, _, _, h, _ => by simp at h
  | p :: P, w :: vs, 0, m, nd, h1, h2, hk => by
    simp at h1 h2; subst h1; subst h2
    show bindL kindOf ((p, w) :: P.zip vs) m p = _
    unfold bindL
    rw [bindL_out fun v hv => (List.nodup_cons.mp nd).1 (List.of_mem_zip hv).1, if_pos hk]
    simp
  | p :: P, w :: vs, i + 1, m, nd, h1, h2, hk => by
    show bindL kindOf ((p, w) :: P.zip vs) m x = _
    unfold bindL
    exact bindL_get (i := i) (List.nodup_cons.mp nd).2 (by simpa using h1) (by simpa using h2) hk
theorem bindC_get {kindOf : Str → Option NameKind} {x : Str} {v : Value} : ∀ {P : List Str} {vs : List Value} {i : Nat} {m : Str → Option Value}, P.Nodup → P[i]? = some x → vs[i]? = some v → kindOf x ≠ some .local →
    bindC kindOf (P.zip vs) m x = some v
  | [], _, _, _, _, h, _, _ => by simp at h
  | _ :: _, [], _, _, _, _, h, _ => by simp at h
  | p :: P, w :: vs, 0, m, nd, h1, h2, hk => by
    simp at h1 h2; subst h1; subst h2
    show bindC kindOf ((p, w) :: P.zip vs) m p = _
    unfold bindC
    rw [bindC_out fun v hv => (List.nodup_cons.mp nd).1 (List.of_mem_zip hv).1, if_neg hk]
    simp
  | p :: P, w :: vs, i + 1, m, nd, h1, h2, hk => by
    show bindC kindOf ((p, w) :: P.zip vs) m x = _
    unfold bindC
    exact bindC_get (i := i) (List.nodup_cons.mp nd).2 (by simpa using h1) (by simpa using h2) hk

/-- the names' values at the entry -/
def start (N : List Str) (vs : List V) : St := vs.map some ++ List.replicate (N.length - vs.length) none

/-- the context of a def's body, at its entry; an exception leaves the frame, then lies as CX says -/
def cxOf (CX : CXT) (P : Program) (w : World) (K : PySem.W.Frag) (mg : Str → Option Value) (base : Heap) (N : List Str) (qual : Str) (scope : Scope) (f : Addr) (cd : Value) (A : Around) (outer : List Env) (s : Shared) (H : Hp) (E : XK) : Cx where
  prog := P
  w := w
  K := K
  mg := mg
  base := base
  A := A.deeper (envOfC qual scope s.heap.objs.size f cd)
  N := N
  s₀ := s
  H₀ := H
  env := envOfC qual scope s.heap.objs.size f cd
  outer := outer
  stack := envOfC qual scope s.heap.objs.size f cd :: outer
  ex := []
  calm := true
  fn := fun _ => true
  pn := []
  xe := fun e s' => wpAny (model P w) (A.deeper (envOfC qual scope s.heap.objs.size f cd)) (leaving (envOfC qual scope s.heap.objs.size f cd) e) (fun _ s'' => CX outer H s E e s'') (fun e' s'' => CX outer H s E e' s'') s'

theorem cell_has {sc : Scope} {n : Nat} {x : Str} (h : sc.names.lookup x = some .cell) : ∃ c, (cellsFrom n sc.names []).lookup x = some c := by
  have q := PySem.W.cellsFrom_some sc.names n [] (.inl h)
  exact Option.isSome_iff_exists.mp q

theorem inv_start {CX : CXT} {P : Program} {w : World} {K : PySem.W.Frag} {mg : Str → Option Value} {base : Heap} {N ps : List Str} {qual : Str} {scope : Scope} {f : Addr} {cd : Value} {A : Around} {outer : List Env} {s s1 : Shared} {H : Hp} {E : XK} {us : List Value} {vs : List V}
    (S : FnScope N ps scope) (hd : A.handled = none) (e0 : Env0 P w K mg base A outer s H) (hl : vs.length = ps.length) (r : Vals vs us)
    (x : InCallC s s.heap.objs.size (bindL (envOfC qual scope s.heap.objs.size f cd).kindOf (ps.zip us) fun _ => none) (cellsFrom (s.heap.objs.size + 1) scope.names []) (bindC (envOfC qual scope s.heap.objs.size f cd).kindOf (ps.zip us) fun _ => none) s1) :
    Inv (cxOf CX P w K mg base N qual scope f cd A outer s H E) [] (start N vs) H s1 := by
  have hpl : ps.length ≤ N.length := by have := congrArg List.length S.pre; rw [List.length_take] at this; omega
  obtain ⟨h1, tk, rfl, hk⟩ := x.done
  have noA : ∀ b : Addr, b ∉ (cxOf CX P w K mg base N qual scope f cd A outer s H E).ex := fun b z => absurd (show b ∈ ([] : List Addr) from z) (by simp)
  refine ⟨⟨e0.mod, S.kind, rfl, rfl, Nat.le_refl _, fun y z c h1 h2 => ?_, fun y hy => ?_, fun y c _ h => ?_, fun _ => hd, Around.frames_deeper e0.frames, .inr ⟨rfl, rfl⟩, fun b z => absurd z (noA b), e0.bs, e0.bsz, fun b _ _ => noA b, fun b z => absurd z (noA b), e0.funs, e0.frf⟩,
    rfl, e0.bare, Un.kept hk, ⟨_, x.toInCall.ns, fun i y v h1 h2 h3 => ?_⟩, fun y c h => ⟨_, x.cell y c h⟩, e0.hok.fresh (Nat.le_refl _), fun y c h => ?_, fun p hp => absurd (show p ∈ ([] : List (Addr × Obj)) from hp) (by simp), e0.hok.kept hk, ?_⟩
  · exact name_of_addr x.apart (PySem.mem_of_lookup h1) (PySem.mem_of_lookup h2)
  · have hy : scope.names.lookup y = some .cell ∨ scope.names.lookup y = some .free := hy
    rcases hy with hy | hy
    · exact cell_has hy
    · exact absurd rfl (S.nofree _ (PySem.mem_of_lookup hy))
  · exact Nat.le_of_lt (x.above y c (PySem.mem_of_lookup h))
  · have hi : i < vs.length := by
      unfold start at h2
      by_cases hi : i < vs.length
      · exact hi
      · rw [List.getElem?_append_right (by simpa using hi)] at h2
        rw [List.getElem?_replicate] at h2
        split at h2 <;> cases h2
    have ha : vs[i]? = some v := by
      unfold start at h2
      rw [List.getElem?_append_left (by simpa using hi), List.getElem?_map] at h2
      cases e : vs[i]? with
      | none => rw [e] at h2; cases h2
      | some a => rw [e] at h2; cases h2; rfl
    obtain ⟨u, hu, rv⟩ := r.get ha
    have hp : ps[i]? = some y := by
      rw [← S.pre, List.getElem?_take_of_lt (by omega)]; exact h1
    have ndP : ps.Nodup := by rw [← S.pre]; exact S.nd.sublist (List.take_sublist _ _)
    refine ⟨u, rv, ?_⟩
    rcases S.par y (List.mem_of_getElem? hp) with k | k
    · exact .inl ⟨k, bindL_get ndP hp hu k⟩
    · obtain ⟨c, e⟩ := cell_has (n := s.heap.objs.size + 1) k
      refine .inr ⟨.inl k, c, e, ?_⟩
      have q := x.cell y c e
      rw [bindC_get ndP hp hu (by show scope.names.lookup y ≠ _; rw [k]; decide)] at q
      exact q
  · exact e0.hok.fresh (Nat.le_of_lt (x.above y c (PySem.mem_of_lookup h)))
  · unfold start
    show _ = N.length
    rw [List.length_append, List.length_map, List.length_replicate]
    omega

/-- THE RULE: a def (or a method) of the text, by its body. The body's reading t is chosen for each entry; it is run at the parameters' values -/
theorem fn_of {CX : CXT} {P : Program} {w : World} {K : PySem.W.Frag} {mg : Str → Option Value} {base : Heap} {k : Nat} {f : Addr} {name qual : Str} {params : Arguments} {body : List Stmt} {scope : Scope} {dV kV doc pm cdv ct oc : Value} {an od : Option Addr}
    {osl : Array (Option Value)} {N ps : List Str} {sp : Sp} (lk : K.lookup f = some ⟨oc, od, .func (PySem.W.fnOf name qual params body scope dV kV doc pm an cdv ct), osl⟩) (hcd : PySem.W.codeIn K cdv qual = true) (S : FnScope N ps scope)
    (len : ∀ vs H Q E, sp vs H Q E → vs.length = ps.length)
    (hbody : ∀ (A : Around) (outer : List Env) (s : Shared) (H : Hp) (vs : List V) (Q : VK) (E : XK), Room k (A.deeper (envOfC qual scope s.heap.objs.size f cdv)) → sp vs H Q E →
      ∃ t, PSs (cxOf CX P w K mg base N qual scope f cdv A outer s H E) body t ∧ t { nx := fun _ H' => Q .non H', rt := Q } (start N vs) H) :
    FnOk P w K mg base CX (k + 1) f (PySem.W.fnOf name qual params body scope dV kV doc pm an cdv ct) ps sp := by
  refine ⟨len, fun A outer s H args us vs Q E hr e0 hb r hsp => ?_⟩
  have hl := len _ _ _ _ hsp
  have KX : K.In s.heap := e0.mod.kin.keeps fun b o e => (e0.bs b o e).1
  have lim : s.heap.NoLimit := e0.mod.nolimit.keeps fun b o e => (e0.bs b o e).1
  have hkind : ∀ y ∈ ps.zip us, scope.names.lookup y.1 = some .local ∨ (scope.names.lookup y.1 = some .cell ∧ ((cellsFrom (s.heap.objs.size + 1) scope.names []).lookup y.1).isSome = true) := fun ⟨n, v⟩ hy => by
    rcases S.par n (List.of_mem_zip hy).1 with q | q
    · exact .inl q
    · exact .inr ⟨q, PySem.W.cellsFrom_some _ _ _ (.inl q)⟩
  refine codeAny_call_function hr.depth (KX _ _ lk) rfl S.co S.gen rfl (PySem.W.codeRec_of KX hcd) (hb _ _ _ _ ?_)
  refine wpAny_newFunctionEnv_cells S.kind hkind fun env he s1 x => ?_
  subst he
  refine ⟨lim.keeps x.toInCall.keep, codeAny_func ?_⟩
  obtain ⟨t, ht, hq⟩ := hbody A outer s H vs Q E (hr.deeper _) hsp
  have I : Inv (cxOf CX P w K mg base N qual scope f cdv A outer s H E) [] (start N vs) H s1 := inv_start S hr.hd e0 hl r x
  refine wpAny_mono (ht [] s1 (start N vs) H _ I hq) (fun fl s' hs => ?_) fun e s' hs => hs
  have fin : ∀ {σ' : St} {H' : Hp} {v : V} {u : Value}, Inv (cxOf CX P w K mg base N qual scope f cdv A outer s H E) [] σ' H' s' → RelV v u → Q v H' → CE outer P w H s Q u s' :=
    fun {σ' H' v u} J rv q => ⟨v, H', J.os, J.bare, J.base, J.hok, rv, q⟩
  cases fl with
  | ret u =>
    obtain ⟨v, σ', H', J, rv, q⟩ := hs
    exact fin J rv q
  | next =>
    obtain ⟨σ', H', J, q⟩ := hs
    exact fin (v := V.non) (u := Value.none) J rfl q
  | brk =>
    obtain ⟨_, _, _, q⟩ := hs
    exact False.elim q
  | cont =>
    obtain ⟨_, _, _, q⟩ := hs
    exact False.elim q
end L2

namespace L2
open PySem PySem.Spec PyProof.Rows
section
variable {X : Cx} {x : Str} {p pos : Pos} {e : Expr} {es : List Expr} {t : TA} {id T : String} {r : List V → Hp → VK → Prop}

def tCB (r : List V → Hp → VK → Prop) (t : TA) : TE := fun σ H Q => t σ H fun vs H1 => r vs H1 Q
/-- f(e, ..), f a built-in function -/
theorem pe_callB (hc : CallR X (.builtin id) r) (hg : Gl X x) (hm : X.mg x = none) (hv : bootBuiltins x = some (.builtin id)) (ha : PA X (e :: es) t) (hn : x ≠ "__name__" := by decide) (hdb : (x == ("__debug__" : Str)) = false := by decide)
    (he : starEach (e :: es) X.env = (false, eval e X.env) :: starEach es X.env := by rfl) (hpl : (backTo pos (starEach es X.env)).any (·.1) = false := by rfl) : PE X (.Call (.Name x p) (e :: es) [] pos) (tCB r t) := by
  intro pins s σ H Q I h
  refine wpAny_Call_Name_kw (ld_blt I hg hm hv ?_ hn hdb)
  exact PyProof.Rows.callWith_builtin1 (thn (ha pos pins s σ H _ I h) fun us s1 ⟨vs, H1, I1, r1, q1⟩ => hc pins s1 σ H1 vs us Q I1 r1 q1) he hpl
/-- T(e, ..), T a built-in type -/
theorem pe_callTy (hc : CallR X (.type T) r) (hg : Gl X x) (hm : X.mg x = none) (hv : bootBuiltins x = some (.type T)) (ha : PA X (e :: es) t) (hn : x ≠ "__name__" := by decide) (hdb : (x == ("__debug__" : Str)) = false := by decide)
    (he : starEach (e :: es) X.env = (false, eval e X.env) :: starEach es X.env := by rfl) (hpl : (backTo pos (starEach es X.env)).any (·.1) = false := by rfl) : PE X (.Call (.Name x p) (e :: es) [] pos) (tCB r t) := by
  intro pins s σ H Q I h
  refine wpAny_Call_Name_kw (ld_blt I hg hm hv ?_ hn hdb)
  exact PyProof.Rows.callWith_type1 (thn (ha pos pins s σ H _ I h) fun us s1 ⟨vs, H1, I1, r1, q1⟩ => hc pins s1 σ H1 vs us Q I1 r1 q1) he hpl
/-- T() -/
theorem pe_callTy0 (hc : CallR X (.type T) r) (hg : Gl X x) (hm : X.mg x = none) (hv : bootBuiltins x = some (.type T)) (hn : x ≠ "__name__" := by decide) (hdb : (x == ("__debug__" : Str)) = false := by decide) :
    PE X (.Call (.Name x p) [] [] pos) (tCB r tNil) := by
  intro pins s σ H Q I h
  refine wpAny_Call_Name_kw (ld_blt I hg hm hv ?_ hn hdb)
  exact PyProof.Rows.callWith_type0 (hc pins s σ H [] [] Q I .nil h)
end
end L2

namespace HT
open PySem PyProof.Rows

/-- t < u of tuples of ints -/
def lexLt : List Int → List Int → Bool
  | [], [] => false
  | [], _ :: _ => true
  | _ :: _, [] => false
  | x :: xs, y :: ys => if x = y then lexLt xs ys else decide (x < y)
theorem lexLt_cons (x y : Int) (xs ys : List Int) : lexLt (x :: xs) (y :: ys) = if x = y then lexLt xs ys else decide (x < y) := rfl
theorem lexLt_nil_nil : lexLt [] [] = false := rfl
theorem lexLt_nil_cons (y : Int) (ys : List Int) : lexLt [] (y :: ys) = true := rfl
theorem lexLt_cons_nil (x : Int) (xs : List Int) : lexLt (x :: xs) [] = false := rfl

theorem eqAt_int (A : Around) (s : Shared) (a : Int) (t : Tok) (c : Int) (u : Tok) : ∃ e, SeqAt.EqAt A s (.int a t) (.int c u) e ∧ (e = true ↔ a = c) :=
  ⟨(a == c), SeqAt.EqAt.int_int a t c u, by simp⟩
theorem rcLt_int (A : Around) (s : Shared) (a : Int) (t : Tok) (c : Int) (u : Tok) (prog : Program) (w : World) (E : Value → Shared → Prop) (Q : Value → Shared → Prop) (h : Q (.bool (decide (a < c))) s) :
    wpAny (model prog w) A (richCompare .Lt (.int a t) (.int c u)) Q E s :=
  (PyProof.Rows.lt_int h : wpAny (model prog w) A (compareOp .Lt (.int a t) (.int c u)) Q E s)

section
open PySem.SeqAt
open PySem.AutoSeq1 (wpAny_loadPart')
open PySem.MeetsSeq PySem.MeetsSeq2 PySem.MeetsSeq3

theorem tuple_lt_ints (l b : Addr) (items items2 : Array Value) (n n2 : Nat) (dd dd2 : Option Addr) (sl sl2 : Array (Option Value)) (ns ms : List Int) (hi : IntsAre items.toList ns) (hj : IntsAre items2.toList ms) :
    Meets (Builtin.«tuple.__lt__» ⟨[.ref l, .ref b], []⟩)
      (fun _ R s => s.heap.get? l = some { cls := .type "tuple", dict := dd, data := .seq items n, slots := sl } ∧ s.heap.get? b = some { cls := .type "tuple", dict := dd2, data := .seq items2 n2, slots := sl2 } ∧
        R (.ok (.ret (.bool (lexLt ns ms)))) s) :=
  .of_wp fun prog w A R s h => by
    obtain ⟨hp, g, d, tk, os⟩ := s; obtain ⟨hl, hb, h⟩ := h
    have f2 := AutoSeq1.sub_tuple_tuple
    have z1 : items.size = ns.length := by rw [← hi.length]; simp
    have z2 : items2.size = ms.length := by rw [← hj.length]; simp
    wp_walk using wpAny_loadPart' hl, wpAny_loadPart' hb, wpAny_forIn_list _ (fun rest b s' => b.1 = none ∧ s' = ⟨hp, g, d, tk, os⟩ ∧ ∃ (vs ws : List Value) (ns' ms' : List Int), rest = vs.zip ws ∧
      IntsAre vs ns' ∧ IntsAre ws ms' ∧ ns'.length + items2.size = ms'.length + items.size ∧ R (.ok (.ret (.bool (lexLt ns' ms')))) ⟨hp, g, d, tk, os⟩) _
    case turn =>
      rintro ⟨y, x⟩ rest b s' ⟨hb', rfl, vs, ws, ns', ms', hz, hvi, hwi, hlen, hR⟩
      cases hvi with
      | nil => rw [List.zip_nil_left] at hz; cases hz
      | cons a t hvi' =>
        cases hwi with
        | nil => rw [List.zip_nil_right] at hz; cases hz
        | cons c u hwi' =>
          rw [List.zip_cons_cons] at hz
          injection hz with hyx hrest
          injection hyx with hy hx
          subst hy hx
          rw [lexLt_cons] at hR
          simp only [List.length_cons] at hlen
          obtain ⟨e, he, hiff⟩ := eqAt_int A.in1 ⟨hp, g, d, tk, os⟩ a t c u
          refine wpAny_bind (he prog w _ _ ?_)
          cases e with
          | true =>
            rw [if_pos (hiff.mp rfl)] at hR
            wp_walk
            exact ⟨rfl, rfl, _, _, _, _, hrest, hvi', hwi', by omega, hR⟩
          | false =>
            rw [if_neg (fun q => absurd (hiff.mpr q) Bool.false_ne_true)] at hR
            have hri := rcLt_int A.in1 ⟨hp, g, d, tk, os⟩ a t c u prog w
            wp_walk using hri
            exact ⟨_, rfl, by simpa using hR⟩
    case fin =>
      rintro ⟨b1, b2⟩ s' ⟨hb', rfl, vs, ws, ns', ms', hz, hvi, hwi, hlen, hR⟩
      simp only at hb'
      subst hb'
      have hv : lexLt ns' ms' = decide (items.size < items2.size) := by
        cases hvi with
        | nil =>
          cases hwi with
          | nil =>
            simp only [List.length_nil] at hlen
            rw [lexLt_nil_nil]
            exact (decide_eq_false (by omega)).symm
          | cons c u hw =>
            simp only [List.length_nil, List.length_cons] at hlen
            rw [lexLt_nil_cons]
            exact (decide_eq_true (by omega)).symm
        | cons a t hv =>
          cases hwi with
          | nil =>
            simp only [List.length_nil, List.length_cons] at hlen
            rw [lexLt_cons_nil]
            exact (decide_eq_false (by omega)).symm
          | cons c u hw =>
            rw [List.zip_cons_cons] at hz
            cases hz
      rw [hv] at hR
      wp_walk
      exact ⟨_, rfl, by simpa [Builtin.Tuple.tupleCompareSizes] using hR⟩
    case h =>
      exact ⟨rfl, rfl, items.toList, items2.toList, ns, ms, rfl, hi, hj, by omega, h⟩
end

section
variable {prog : Program} {w : World} {A : Around} {E : Value → Shared → Prop} {s : Shared}

theorem lt_tupInts {l b : Addr} {items items2 : Array Value} {ns ms : List Int} {Q : Value → Shared → Prop} (hl : IsTup s.heap l items) (hb : IsTup s.heap b items2) (hi : IntsAre items.toList ns) (hj : IntsAre items2.toList ms)
    (hu : A.units < cLine) (h : Q (.bool (lexLt ns ms)) s) : wpAny (model prog w) A (compareOp .Lt (.ref l) (.ref b)) Q E s := by
  obtain ⟨⟨cls, dd, data, sl⟩, ho, hc, n, hd⟩ := id hl
  obtain ⟨⟨cls2, dd2, data2, sl2⟩, ho2, hc2, n2, hd2⟩ := id hb
  simp only at hc hd hc2 hd2
  subst hc hd hc2 hd2
  exact richCompare_meets_room (op := .Lt) ⟨_, ho, rfl⟩ ⟨_, ho2, rfl⟩ PySem.F.slot_tuple_lt PySem.F.entry_tuple_lt (PySem.F.args_tuple_lt_2 _ _) (tuple_lt_ints l b items items2 n n2 dd dd2 sl sl2 ns ms hi hj)
    ⟨ho, ho2, show Value.bool (lexLt ns ms) ≠ Value.notImplemented ∧ Q (.bool (lexLt ns ms)) s from ⟨(fun x => nomatch x), h⟩⟩ hu

/-- t + u, t not empty -/
theorem cat_tup {t b : Addr} {vs ws : List Value} {Q : Value → Shared → Prop} (ht : IsTup s.heap t vs.toArray) (hb : IsTup s.heap b ws.toArray) (hv : vs ≠ [])
    (h1 : ws = [] → Q (.ref t) s) (h2 : ws ≠ [] → Q (.ref s.heap.objs.size) { s with heap := s.heap.push { cls := .type "tuple", data := .seq (vs ++ ws).toArray } })
    (hsz : vs.length + ws.length ≤ sizeLine) : wpAny (model prog w) A (binaryOp .Add (.ref t) (.ref b)) Q E s := by
  obtain ⟨⟨cls, dd, data, sl⟩, ho, hc, n, hd⟩ := id ht
  obtain ⟨⟨cls2, dd2, data2, sl2⟩, ho2, hc2, n2, hd2⟩ := id hb
  simp only at hc hd hc2 hd2
  subst hc hd hc2 hd2
  have e : vs.toArray ++ ws.toArray = (vs ++ ws).toArray := by simp
  by_cases hw : ws = []
  · exact concat_meets ⟨_, ho, rfl⟩ ⟨_, ho2, rfl⟩ noFill_tuple_add seq_tuple_add PySem.F.slot_tuple_add PySem.F.entry_tuple_add (PySem.F.args_tuple_add_2 _ _)
      (tuple_addW1 t b vs.toArray ws.toArray n n2 dd dd2 sl sl2 (by simpa using hv) (by simp [hw])) ⟨ho, ho2, h1 hw⟩
  · refine concat_meets ⟨_, ho, rfl⟩ ⟨_, ho2, rfl⟩ noFill_tuple_add seq_tuple_add PySem.F.slot_tuple_add PySem.F.entry_tuple_add (PySem.F.args_tuple_add_2 _ _)
      (tuple_addW2 t b vs.toArray ws.toArray n n2 dd dd2 sl sl2 (by simpa using hv) (by simpa using hw) (by rw [List.size_toArray, List.size_toArray]; exact hsz)) ⟨ho, ho2, ?_⟩
    rw [e]
    exact h2 hw

/-! ### t[a:b], not the whole -/
/-- a slice's bound as a place among n (d where it is left out) -/
def sIx (n d : Nat) : Option Int → Nat
  | none => d
  | some v => if v < 0 then (v + (n : Int)).toNat else min v.toNat n
theorem sIx_none (n d : Nat) : sIx n d none = d := rfl
theorem sIx_nat (n d k : Nat) : sIx n d (some (k : Int)) = min k n := by
  show (if (k : Int) < 0 then ((k : Int) + (n : Int)).toNat else min (k : Int).toNat n) = min k n
  rw [if_neg (by omega), Int.toNat_natCast]
theorem sIx_le (n d : Nat) (hd : d ≤ n) (o : Option Int) : sIx n d o ≤ n := by
  cases o with
  | none => exact hd
  | some v =>
    show (if v < 0 then (v + (n : Int)).toNat else min v.toNat n) ≤ n
    by_cases hv : v < 0
    · rw [if_pos hv]; omega
    · rw [if_neg hv]; exact Nat.min_le_right _ _
theorem clip_eq (v : Int) (n d : Nat) : (if v < 0 then max (v + (n : Int)) 0 else min v (n : Int)) = ((sIx n d (some v) : Nat) : Int) := by
  show (if v < 0 then max (v + (n : Int)) 0 else min v (n : Int)) = (((if v < 0 then (v + (n : Int)).toNat else min v.toNat n) : Nat) : Int)
  by_cases hv : v < 0
  · simp only [if_pos hv]; omega
  · simp only [if_neg hv]; omega
theorem adjust_gen (lo hi : Option Int) (n : Nat) : Builtin.Slice.sliceAdjust lo hi 1 (n : Int) = (((sIx n 0 lo : Nat) : Int), ((sIx n n hi : Nat) : Int)) := by
  have h1 : ¬ ((1 : Int) < 0) := by omega
  unfold Builtin.Slice.sliceAdjust
  simp only [h1, if_false]
  refine Prod.ext ?_ ?_
  · cases lo with
    | none => rfl
    | some v => exact clip_eq v n 0
  · cases hi with
    | none => rfl
    | some v => exact clip_eq v n n
theorem places_gen (i j : Nat) : Builtin.Slice.slicePlaces (i : Int) (j : Int) 1 = j - i := by
  unfold Builtin.Slice.slicePlaces
  have h1 : (1 : Int) > 0 := by omega
  simp only [h1, if_true, Int.ediv_one]
  split <;> omega
theorem slicePart_ {v : Value} {o : Option Int} {Q : Option Int → Shared → Prop} (p : IsPart v o) (h : Q o s) : wpAny (model prog w) A (Builtin.Slice.slicePartIndex v) Q E s := by
  cases p with
  | none => exact slicePart_none h
  | int i t => exact slicePart_int h
theorem sliceApplied_gen {sl : Addr} {vl vu : Value} {lo hi : Option Int} {n : Nat} {Q : Int × Int × Nat → Shared → Prop} (hs : s.heap.IsSliceOf sl vl vu .none) (pl : IsPart vl lo) (pu : IsPart vu hi)
    (h : Q (((sIx n 0 lo : Nat) : Int), 1, sIx n n hi - sIx n 0 lo) s) : wpAny (model prog w) A (Builtin.Slice.sliceApplied (.ref sl) (pure (n : Int))) Q E s := by
  obtain ⟨os, hos, hcs, hds⟩ := id hs
  unfold Builtin.Slice.sliceApplied Builtin.Slice.sliceFields
  refine wpAny_bind (wpAny_bind (wpAny_field hos hds (x := vl) rfl (wpAny_bind (wpAny_field hos hds (x := vu) rfl (wpAny_bind (wpAny_field hos hds (x := .none) rfl (wpAny_pure ?_)))))))
  refine wpAny_bind (slicePart_none ?_)
  show wpAny _ _ (if ((1 : Int) == 0) = true then _ else _) _ _ s
  rw [if_neg (by decide)]
  refine wpAny_bind (slicePart_ pl (wpAny_bind (slicePart_ pu (wpAny_bind (wpAny_pure ?_)))))
  show wpAny _ _ (match Builtin.Slice.sliceAdjust lo hi 1 (n : Int) with | (lo, hi) => pure (lo, (1 : Int), Builtin.Slice.slicePlaces lo hi 1)) _ _ s
  rw [adjust_gen lo hi n]
  show wpAny _ _ (pure (((sIx n 0 lo : Nat) : Int), (1 : Int), Builtin.Slice.slicePlaces ((sIx n 0 lo : Nat) : Int) ((sIx n n hi : Nat) : Int) 1)) _ _ s
  rw [places_gen]
  exact wpAny_pure h
theorem pick_gen (xs : Array Value) (i k : Nat) : ((List.range k).filterMap fun (m : Nat) => xs[((i : Int) + (m : Int) * 1).toNat]?).toArray = ((xs.toList.drop i).take k).toArray := by
  have e : (fun (m : Nat) => xs[((i : Int) + (m : Int) * 1).toNat]?) = fun m => xs[i + m]? := by
    funext m
    have : ((i : Int) + (m : Int) * 1).toNat = i + m := by omega
    rw [this]
  rw [e]
  have := pick_run xs i k
  rw [List.filterMap_map] at this
  have e2 : ((fun x => xs[x]?) ∘ fun x => i + x) = fun m => xs[i + m]? := rfl
  rw [e2] at this
  rw [this]

theorem getItem_tuple_cut {t sl : Addr} {items : Array Value} {vl vu : Value} {lo hi : Option Int} {Q : Value → Shared → Prop} (ht : IsTup s.heap t items) (hs : s.heap.IsSliceOf sl vl vu .none) (pl : IsPart vl lo) (pu : IsPart vu hi)
    (hw : ¬ (sIx items.size 0 lo = 0 ∧ sIx items.size items.size hi = items.size))
    (h : Q (.ref s.heap.objs.size) { s with heap := s.heap.push { cls := .type "tuple", data := .seq ((items.toList.drop (sIx items.size 0 lo)).take (sIx items.size items.size hi - sIx items.size 0 lo)).toArray } })
    (hsz : items.size ≤ sizeLine) : wpAny (model prog w) A (getItem (.ref t) (.ref sl)) Q E s := by
  have htake : sizeOk (.seq ((items.toList.drop (sIx items.size 0 lo)).take (sIx items.size items.size hi - sIx items.size 0 lo)).toArray) := by
    show ((items.toList.drop (sIx items.size 0 lo)).take (sIx items.size items.size hi - sIx items.size 0 lo)).toArray.size ≤ sizeLine
    rw [List.size_toArray, List.length_take, List.length_drop, Array.length_toList]
    omega
  have hj : sIx items.size items.size hi ≤ items.size := sIx_le _ _ (Nat.le_refl _) hi
  obtain ⟨os, hos, hcs, hds⟩ := id hs
  have hTs : s.TypeIs (.ref sl) "slice" := ⟨os, hos, hcs⟩
  unfold getItem
  try with_reducible refine wpAny_holding ?_
  first | refine wpAny_bind (wpAny_pure ?_) | skip
  refine wpAny_bind (wpAny_sequenceKey ht.typeIs (by decide) ?_)
  refine wpAny_bind (wpAny_callSpecial?_slot (name := Str.ofString "__getitem__") ht.typeIs PyProof.Rows.slot_tuple_getitem
    (wpAny_call_entry PyProof.Rows.slot_tuple_getitem ht.typeIs entry_tuple_getitem ?_ (args_tuple_getitem _ _)))
  show wpAny _ _ (Builtin.Tuple.tupleItemsOf (.ref t) >>= _) _ _ s
  refine wpAny_bind (tupleItemsOf_ ht ?_)
  refine wpAny_bind (wpAny_typeOf hTs ?_)
  rw [if_pos (by decide)]
  refine wpAny_bind (sliceApplied_gen hs pl pu ?_)
  have hno : ¬ ((((sIx items.size 0 lo : Nat) : Int) == 0 && (1 : Int) == 1 && (sIx items.size items.size hi - sIx items.size 0 lo) == items.size) = true) := by
    intro q
    rw [Bool.and_eq_true, Bool.and_eq_true] at q
    have q1 : ((sIx items.size 0 lo : Nat) : Int) = 0 := eq_of_beq q.1.1
    have q2 : sIx items.size items.size hi - sIx items.size 0 lo = items.size := eq_of_beq q.2
    exact hw ⟨by omega, by omega⟩
  show wpAny _ _ (if (((sIx items.size 0 lo : Nat) : Int) == 0 && (1 : Int) == 1 && (sIx items.size items.size hi - sIx items.size 0 lo) == items.size) = true then _ else _) _ _ s
  rw [if_neg hno, pick_gen]
  first
    | exact wpAny_bind (m := Builtin.Tuple.tupleExact _) (wpAny_newObj_type (wpAny_pure ⟨_, rfl, wpAny_pure h⟩) htake)
    | exact wpAny_bind (m := Builtin.Tuple.tupleExact _) (wpAny_newObj_type (wpAny_bind (wpAny_pure (wpAny_pure ⟨_, rfl, wpAny_pure h⟩))) htake)
    | exact wpAny_bind (wpAny_bind (m := Builtin.Tuple.tupleExact _) (wpAny_newObj_type (wpAny_pure (wpAny_pure ⟨_, rfl, wpAny_pure h⟩)) htake))
    | exact wpAny_bind (wpAny_bind (m := Builtin.Tuple.tupleExact _) (wpAny_newObj_type (wpAny_pure ⟨_, rfl, wpAny_pure h⟩) htake))
end
end HT

namespace L2
open PySem PySem.Spec PyProof.Rows

/-! ### the parts of a slice -/
abbrev TO := St → Hp → (Option Int → Hp → Prop) → Prop
/-- a slice's part (left out, or an int) -/
def PO (X : Cx) (e : Option Expr) (t : TO) : Prop :=
  ∀ (pins : List (Addr × Obj)) (s : Shared) (σ : St) (H : Hp) (Q : Option Int → Hp → Prop), Inv X pins σ H s → t σ H Q →
    wpAny (model X.prog X.w) X.A (evalPart e X.env) (fun u s' => ∃ o H', Inv X pins σ H' s' ∧ IsPart u o ∧ Q o H') X.xe s
def tNoPart : TO := fun _ H Q => Q none H
def tPart (t : TE) : TO := fun σ H Q => t σ H fun x H1 => ∃ i, x = .int i ∧ Q (some i) H1

theorem intsAre_of {ns : List Int} : ∀ {us : List Value}, Vals (ns.map V.int) us → IntsAre us ns := by
  induction ns with
  | nil => intro us r; rw [List.map_nil] at r; cases r; exact .nil
  | cons n ns ih =>
    intro us r
    rw [List.map_cons] at r
    cases r with
    | cons r1 r2 =>
      obtain ⟨t, e⟩ := r1
      subst e
      exact .cons n t (ih r2)

section
variable {X : Cx} {e : Expr} {te : TE} {lo hi : Option Expr} {tl th : TO} {pos p2 : Pos}

theorem po_none : PO X none tNoPart := by
  intro pins s σ H Q I h
  rw [evalPart_none]
  exact wpAny_pure ⟨none, H, I, .none, h⟩
theorem po_some (h : PE X e te) : PO X (some e) (tPart te) := by
  intro pins s σ H Q I hw
  rw [evalPart_some]
  refine thn (h pins s σ H _ I hw) fun u s1 ⟨x, H1, I1, r1, q1⟩ => ?_
  obtain ⟨i, rfl, q⟩ := q1
  obtain ⟨t, rfl⟩ := r1
  exact ⟨some i, H1, I1, .int i t, q⟩

/-- what a slice of a value is, by values: the slice object stands at sl -/
def SlR (X : Cx) (r : V → Option Int → Option Int → Hp → VK → Prop) : Prop :=
  ∀ (pins : List (Addr × Obj)) (s : Shared) (σ : St) (H : Hp) (x : V) (v vl vu : Value) (lo hi : Option Int) (sl : Addr) (Q : VK), Inv X pins σ H s → RelV x v → s.heap.IsSliceOf sl vl vu .none → IsPart vl lo → IsPart vu hi → r x lo hi H Q →
    ∃ T id, typeLookup (.type T) "__getitem__" = pure (some (.builtin id)) ∧ s.TypeIs v T ∧ wpAny (model X.prog X.w) X.A (getItem v (.ref sl)) (EP X pins σ Q) X.xe s
theorem SlR.or {r r' : V → Option Int → Option Int → Hp → VK → Prop} (h : SlR X r) (h' : SlR X r') : SlR X (fun x lo hi H Q => r x lo hi H Q ∨ r' x lo hi H Q) := by
  intro pins s σ H x v vl vu lo hi sl Q I rx hs pl pu q
  rcases q with q | q
  · exact h pins s σ H x v vl vu lo hi sl Q I rx hs pl pu q
  · exact h' pins s σ H x v vl vu lo hi sl Q I rx hs pl pu q
def tSl (r : V → Option Int → Option Int → Hp → VK → Prop) (te : TE) (tl th : TO) : TE := fun σ H Q => te σ H fun x H1 => tl σ H1 fun l H2 => th σ H2 fun u H3 => r x l u H3 Q
/-- a[lo:hi], any a -/
theorem pe_slice {r : V → Option Int → Option Int → Hp → VK → Prop} (hr : SlR X r) (he : PE X e te) (hl : PO X lo tl) (hu : PO X hi th) : PE X (.Subscript e (.Slice lo hi none p2) pos) (tSl r te tl th) := by
  intro pins s σ H Q I h
  refine Subscript_ (thn (he pins s σ H _ I h) fun v s1 ⟨x, H1, I1, r1, q1⟩ => ?_)
  refine wpAny_Slice (thn (hl pins s1 σ H1 _ I1 q1) fun vl s2 ⟨l, H2, I2, pl, q2⟩ => thn (hu pins s2 σ H2 _ I2 q2) fun vu s3 ⟨u, H3, I3, pu, q3⟩ => ?_)
  rw [evalPart_none]
  refine wpAny_pure ?_
  have I4 : Inv X pins σ H3 { s3 with heap := s3.heap.push { cls := .type "slice", data := .fields #[vl, vu, .none] } } := I3.kept (t' := s3.toks) fun b ob q => Heap.get?_push_of_some _ q
  obtain ⟨T, id, hT, ht, hg⟩ := hr pins { s3 with heap := s3.heap.push { cls := .type "slice", data := .fields #[vl, vu, .none] } } σ H3 x v vl vu l u s3.heap.objs.size Q I4 r1 (Heap.IsSliceOf.new ..) pl pu q3
  show wpAny (model X.prog X.w) X.A (subscriptTail e (.Slice lo hi none p2) v (.ref s3.heap.objs.size)) (EP X pins σ Q) X.xe { s3 with heap := s3.heap.push { cls := .type "slice", data := .fields #[vl, vu, .none] } }
  exact tail_any (ops := [.ref s3.heap.objs.size, v]) ht hT hg (by with_unfolding_all rfl)

/-- the items of xs[lo:hi] -/
def cutV (xs : List V) (lo hi : Option Int) : List V := (xs.drop (HT.sIx xs.length 0 lo)).take (HT.sIx xs.length xs.length hi - HT.sIx xs.length 0 lo)
theorem cutV_length (xs : List V) (lo hi : Option Int) : (cutV xs lo hi).length ≤ xs.length := by
  unfold cutV
  rw [List.length_take, List.length_drop]
  omega
/-- t[lo:hi], not the whole of it (the whole would be t itself) -/
def rSlT (K : PySem.W.Frag) : V → Option Int → Option Int → Hp → VK → Prop := fun x lo hi H Q => ∃ a xs, x = .ref a ∧ SqT K H a xs ∧
  ¬ (HT.sIx xs.length 0 lo = 0 ∧ HT.sIx xs.length xs.length hi = xs.length) ∧ ∀ p, H p = none → Q (.ref p) (upd H p (.tup (cutV xs lo hi)))
theorem sl_tup : SlR X (rSlT X.K) := by
  intro pins s σ H x v vl vu lo hi sl Q I rx hs pl pu h
  obtain ⟨a, xs, rfl, hx, hw, q⟩ := h
  cases rx
  obtain ⟨its, r, ht, hz⟩ := I.tuple hx
  have hlen : its.toArray.size = xs.length := by rw [List.size_toArray]; exact r.length.symm
  refine ⟨"tuple", _, PyProof.Rows.slot_tuple_getitem.lookup, ht.typeIs, ?_⟩
  refine HT.getItem_tuple_cut ht hs pl pu (by rw [hlen]; exact hw) ?_ (by rw [hlen]; exact hz)
  rw [hlen]
  refine ⟨.ref s.heap.objs.size, _, I.laid (t' := s.toks) (o := .tup (cutV xs lo hi)) (fun b ob q => Heap.get?_push_of_some _ q) (Nat.le_refl _) ?_, rfl, q _ (I.hok.fresh (Nat.le_refl _))⟩
  exact ⟨Nat.le_trans (cutV_length xs lo hi) hz, _, (r.drop (HT.sIx xs.length 0 lo)).take (HT.sIx xs.length xs.length hi - HT.sIx xs.length 0 lo), IsTup.new _ _⟩

/-! ### t < u, t + u -/
def rLtT (K : PySem.W.Frag) : R2 := fun x y H Q => ∃ a b ns ms, x = .ref a ∧ y = .ref b ∧ SqT K H a (ns.map V.int) ∧ SqT K H b (ms.map V.int) ∧ Q (.bl (HT.lexLt ns ms)) H
theorem op_ltT (hu : X.A.units < cLine) : OpR X (compareOp .Lt) (rLtT X.K) := by
  intro pins s σ H x y v u Q I rx ry h
  obtain ⟨a, b, ns, ms, rfl, rfl, ha, hb, q⟩ := h
  cases rx
  cases ry
  obtain ⟨its, r1, p1, _⟩ := I.tuple ha
  obtain ⟨its2, r2, p2, _⟩ := I.tuple hb
  have i1 : IntsAre its.toArray.toList ns := intsAre_of r1
  have i2 : IntsAre its2.toArray.toList ms := intsAre_of r2
  exact HT.lt_tupInts p1 p2 i1 i2 hu ⟨.bl (HT.lexLt ns ms), H, I, rfl, q⟩
/-- t + u, t not empty: u empty gives t itself -/
def rCatT (K : PySem.W.Frag) : R2 := fun x y H Q => ∃ a b xs ys, x = .ref a ∧ y = .ref b ∧ SqT K H a xs ∧ SqT K H b ys ∧ xs ≠ [] ∧ xs.length + ys.length ≤ sizeLine ∧
  (ys = [] → Q (.ref a) H) ∧ (ys ≠ [] → ∀ p, H p = none → Q (.ref p) (upd H p (.tup (xs ++ ys))))
theorem Vals.nil_iff {xs : List V} {us : List Value} (r : Vals xs us) : us = [] ↔ xs = [] := by
  cases r with
  | nil => simp
  | cons _ _ => simp
theorem op_catT : OpR X (binaryOp .Add) (rCatT X.K) := by
  intro pins s σ H x y v u Q I rx ry h
  obtain ⟨a, b, xs, ys, rfl, rfl, ha, hb, hx, hz, q1, q2⟩ := h
  cases rx
  cases ry
  obtain ⟨its, r1, p1, _⟩ := I.tuple ha
  obtain ⟨its2, r2, p2, _⟩ := I.tuple hb
  refine HT.cat_tup p1 p2 (fun z => hx (r1.nil_iff.mp z)) (fun z => ⟨.ref a, H, I, rfl, q1 (r2.nil_iff.mp z)⟩) (fun z => ?_) (by rw [← r1.length, ← r2.length]; exact hz)
  refine ⟨.ref s.heap.objs.size, _, I.laid (t' := s.toks) (o := .tup (xs ++ ys)) (fun b ob q => Heap.get?_push_of_some _ q) (Nat.le_refl _) ?_, rfl, q2 (fun w => z (r2.nil_iff.mpr w)) _ (I.hok.fresh (Nat.le_refl _))⟩
  exact ⟨by rw [List.length_append]; exact hz, _, r1.append r2, IsTup.new _ _⟩
/-- tuple(t) -/
theorem call_tupleT : CallR X (.type "tuple") (fun xs H Q => ∃ a ys, xs = [.ref a] ∧ SqT X.K H a ys ∧ Q (.ref a) H) := by
  intro pins s σ H xs us Q I r h
  obtain ⟨a, ys, rfl, ha, q⟩ := h
  obtain ⟨u, rfl, ru⟩ := vals1 r
  cases ru
  obtain ⟨its, _, p1, _⟩ := I.tuple ha
  exact call_tuple_same (items := its.toArray) p1 ⟨.ref a, H, I, rfl, q⟩
end
end L2

namespace L2
open PySem PySem.Spec PyProof.Rows

/-! ### places -/
/-- the place that an index of any sign means -/
def ixN (n : Nat) (i : Int) : Option Nat := if 0 ≤ i then (if i < n then some i.toNat else none) else if -(n : Int) ≤ i then some (i + n).toNat else none
def atI {α : Type} (xs : List α) (i : Int) : Option α := (ixN xs.length i).bind fun j => xs[j]?
theorem ixN_seq {n : Nat} {i : Int} {j : Nat} (h : ixN n i = some j) : seqIndex? i n = some j ∧ j < n ∧ -(n : Int) ≤ i ∧ i < n := by
  unfold ixN at h
  by_cases h0 : 0 ≤ i
  · rw [if_pos h0] at h
    by_cases h1 : i < n
    · rw [if_pos h1] at h
      have e : i.toNat = j := Option.some.inj h
      exact ⟨by rw [seqIndex_of h0 h1, e], by omega, by omega, h1⟩
    · rw [if_neg h1] at h; cases h
  · rw [if_neg h0] at h
    by_cases h1 : -(n : Int) ≤ i
    · rw [if_pos h1] at h
      have e : (i + n).toNat = j := Option.some.inj h
      exact ⟨by rw [seqIndex_neg (by omega) h1, e], by omega, h1, by omega⟩
    · rw [if_neg h1] at h; cases h
theorem atI_get {α : Type} {xs : List α} {i : Int} {v : α} (h : atI xs i = some v) : ∃ j, seqIndex? i xs.length = some j ∧ xs[j]? = some v ∧ j < xs.length ∧ -(xs.length : Int) ≤ i ∧ i < xs.length := by
  unfold atI at h
  cases e : ixN xs.length i with
  | none => rw [e] at h; cases h
  | some j =>
    rw [e] at h
    obtain ⟨h1, h2, h3, h4⟩ := ixN_seq e
    exact ⟨j, h1, h, h2, h3, h4⟩
theorem atI_nat {α : Type} {xs : List α} {j : Nat} {v : α} (h : xs[j]? = some v) : atI xs (j : Int) = some v := by
  have hj : j < xs.length := (List.getElem?_eq_some_iff.mp h).1
  have e : ixN xs.length (j : Int) = some j := by
    unfold ixN
    rw [if_pos (by omega), if_pos (by omega)]; simp
  unfold atI; rw [e]; exact h
theorem atI_last {α : Type} (xs : List α) (v : α) : atI (xs ++ [v]) (-1) = some v := by
  have hl : (xs ++ [v]).length = xs.length + 1 := by simp
  have e : ixN (xs ++ [v]).length (-1) = some xs.length := by
    unfold ixN
    rw [hl, if_neg (by decide), if_pos (by omega)]
    congr 1
    omega
  unfold atI
  rw [e]
  show (xs ++ [v])[xs.length]? = some v
  simp

/-! ### what may be subscripted -/
/-- what stands as an index of a plain subscript -/
def PlainIx (b : Expr) : Prop := ∀ o i, subscripted b false o i = operate [o, i] (getItem o i)
/-- a subscript by values -/
def IxR (X : Cx) (r : R2) : Prop :=
  ∀ (value slice : Expr) (pins : List (Addr × Obj)) (s : Shared) (σ : St) (H : Hp) (x y : V) (v u : Value) (Q : VK), Inv X pins σ H s → RelV x v → RelV y u → r x y H Q →
    subscripted slice false v u = operate [v, u] (getItem v u) → wpAny (model X.prog X.w) X.A (subscriptTail value slice v u) (EP X pins σ Q) X.xe s
/-- a call of a builtin's method by values: the receiver, the arguments -/
def MtR (X : Cx) (id : String) (r : V → List V → Hp → VK → Prop) : Prop :=
  ∀ (pins : List (Addr × Obj)) (s : Shared) (σ : St) (H : Hp) (x : V) (xs : List V) (v : Value) (us : List Value) (Q : VK), Inv X pins σ H s → RelV x v → Vals xs us → r x xs H Q →
    wpAny (model X.prog X.w) X.A (call (.builtin id) (v :: us)) (EP X pins σ Q) X.xe s
section
variable {X : Cx} {a b : Expr} {ta tb : TE} {pos : Pos}
theorem IxR.or {r r' : R2} (h : IxR X r) (h' : IxR X r') : IxR X (fun x y H Q => r x y H Q ∨ r' x y H Q) := by
  intro value slice pins s σ H x y v u Q I rx ry q hs
  rcases q with q | q
  · exact h value slice pins s σ H x y v u Q I rx ry q hs
  · exact h' value slice pins s σ H x y v u Q I rx ry q hs
theorem MtR.or {id : String} {r r' : V → List V → Hp → VK → Prop} (h : MtR X id r) (h' : MtR X id r') : MtR X id (fun x xs H Q => r x xs H Q ∨ r' x xs H Q) := by
  intro pins s σ H x xs v us Q I rx rs q
  rcases q with q | q
  · exact h pins s σ H x xs v us Q I rx rs q
  · exact h' pins s σ H x xs v us Q I rx rs q
/-- a[b] -/
theorem pe_ix {r : R2} (hr : IxR X r) (ha : PE X a ta) (hb : PE X b tb) (hs : PlainIx b) : PE X (.Subscript a b pos) (tOp r ta tb) := by
  intro pins s σ H Q I h
  exact Subscript_ (binT ha hb I h fun v u s2 x y H2 I2 rx ry q => hr a b pins s2 σ H2 x y v u Q I2 rx ry q (hs _ _))

def rIxL (K : PySem.W.Frag) : R2 := fun x y H Q => ∃ p xs i v, x = .ref p ∧ y = .int i ∧ SqL K H p xs ∧ atI xs i = some v ∧ Q v H
def rIxT (K : PySem.W.Frag) : R2 := fun x y H Q => ∃ p xs i v, x = .ref p ∧ y = .int i ∧ SqT K H p xs ∧ atI xs i = some v ∧ Q v H
def rIxS : R2 := fun x y H Q => ∃ z i c, x = .str z ∧ y = .int i ∧ z.length ≤ sizeLine ∧ atI z.cps.toList i = some c ∧ Q (.str ⟨#[c]⟩) H
theorem ix_list : IxR X (rIxL X.K) := by
  intro value slice pins s σ H x y v u Q I rx ry h hs
  obtain ⟨p, xs, i, z, rfl, rfl, hq, he, q⟩ := h
  cases rx
  obtain ⟨t, rfl⟩ := ry
  obtain ⟨its, r, pl, hz⟩ := I.list hq
  obtain ⟨j, h1, h2, h3, h4, h5⟩ := atI_get he
  obtain ⟨w, ew, rw'⟩ := r.get h2
  have hl := r.length
  have hn := line63
  have fin : EP X pins σ Q w s := ⟨z, H, I, rw', q⟩
  by_cases h0 : 0 ≤ i
  · have hj : i.toNat = j := by
      rw [seqIndex_of h0 h5] at h1
      exact Option.some.inj h1
    exact item_listR pl.isList h0 (by omega) (by rw [hj]; simpa using ew) fin hs
  · have hj : (i + (its.toArray.size : Int)).toNat = j := by
      rw [seqIndex_neg (by omega) h4] at h1
      rw [List.size_toArray, ← hl]
      exact Option.some.inj h1
    exact subscriptTail_builtinR (x := w) pl.isList.typeIs slot_list_getitem.lookup
      (wpAny_getItem_list_neg (Q := fun r s' => r = w ∧ EP X pins σ Q r s') pl.isList (by omega) (by rw [List.size_toArray] <;> omega) (by omega) (by rw [hj]; simpa using ew) ⟨rfl, fin⟩) hs
theorem ix_tup : IxR X (rIxT X.K) := by
  intro value slice pins s σ H x y v u Q I rx ry h hs
  obtain ⟨p, xs, i, z, rfl, rfl, hq, he, q⟩ := h
  cases rx
  obtain ⟨t, rfl⟩ := ry
  obtain ⟨its, r, pl, hz⟩ := I.tuple hq
  obtain ⟨j, h1, h2, h3, h4, h5⟩ := atI_get he
  obtain ⟨w, ew, rw'⟩ := r.get h2
  have hl := r.length
  have hn := line63
  have fin : EP X pins σ Q w s := ⟨z, H, I, rw', q⟩
  exact subscriptTail_builtinR (x := w) pl.typeIs slot_tuple_getitem.lookup
    (getItem_tuple (j := j) (Q := fun r s' => r = w ∧ EP X pins σ Q r s') pl (by omega) (by omega) (by rw [List.size_toArray, ← hl]; exact h1) (by simpa using ew) ⟨rfl, fin⟩) hs
theorem ix_str : IxR X rIxS := by
  intro value slice pins s σ H x y v u Q I rx ry h hs
  obtain ⟨z, i, c, rfl, rfl, hz, he, q⟩ := h
  obtain ⟨t, rfl⟩ := rx
  obtain ⟨t', rfl⟩ := ry
  obtain ⟨j, h1, h2, h3, h4, h5⟩ := atI_get he
  have hl : z.cps.toList.length = z.length := by simp [Str.length]
  rw [hl] at h1 h4 h5
  have hn := line63
  exact tail_any (typeIs_str s z t) slot_str_getitem.lookup (getItem_str (c := c) (by
    have e1 : decide (i < -(2 ^ 63 : Int)) = false := decide_eq_false (by omega)
    have e2 : decide (i ≥ 2 ^ 63) = false := decide_eq_false (by omega)
    rw [e1, e2, Bool.or_false]) (by rw [h1]; simpa using h2) ⟨.str ⟨#[c]⟩, H, I.tok _, ⟨_, rfl⟩, q⟩) hs
/-- list, tuple or str -/
def rIx (K : PySem.W.Frag) : R2 := fun x y H Q => rIxL K x y H Q ∨ rIxT K x y H Q ∨ rIxS x y H Q
theorem ix_seq : IxR X (rIx X.K) := ix_list.or (ix_tup.or ix_str)

/-! ### xs[i] = v, any sign -/
/-- the list's object behind a store -/
theorem mapSeq_set (its : List Value) (n j : Nat) (u : Value) : Obj.mapSeq (·.setIfInBounds j u) { cls := .type "list", data := .seq its.toArray n } = { cls := .type "list", data := .seq (its.set j u).toArray n } := by
  simp [Obj.mapSeq]
theorem Inv.lst {pins : List (Addr × Obj)} {σ : St} {H : Hp} {s : Shared} {p : Addr} {xs : List V} (I : Inv X pins σ H s) (h : H p = some (.lst xs)) :
    ∃ (its : List Value) (n : Nat), Vals xs its ∧ s.heap.get? p = some { cls := .type "list", data := .seq its.toArray n } ∧ xs.length ≤ sizeLine := by
  obtain ⟨z, its, n, r, e⟩ := I.hok p _ h
  exact ⟨its, n, r, e, z⟩
/-- the list at p is written by an update of its object -/
theorem Inv.lstUpd {pins : List (Addr × Obj)} {σ : St} {H : Hp} {s : Shared} {p : Addr} {xs ys : List V} {its its' : List Value} {n n' : Nat} {f : Obj → Obj} (I : Inv X pins σ H s) (h : H p = some (.lst xs))
    (ho : s.heap.get? p = some { cls := .type "list", data := .seq its.toArray n }) (hf : f { cls := .type "list", data := .seq its.toArray n } = { cls := .type "list", data := .seq its'.toArray n' }) (r : Vals ys its') (hz : ys.length ≤ sizeLine) (t : Nat) :
    Inv X pins σ (upd H p (.lst ys)) { s with heap := s.heap.update p f, toks := t } := by
  have e : (s.heap.update p f).get? p = some { cls := .type "list", data := .seq its'.toArray n' } := by
    rw [Heap.get?_update_self f ho (by rw [hf] <;> rfl), hf]
  refine I.write (x := p) (e := p) (by rw [h]; trivial) (.inl rfl) (fun b u hb q => (Heap.get?_update_other _ _ (Ne.symm hb)).trans q) ⟨_, e⟩ ?_
  exact ⟨hz, its', n', r, e⟩
def rSetL : V → V → V → Hp → (Hp → Prop) → Prop := fun o i v H Q => ∃ p xs k j, o = .ref p ∧ i = .int k ∧ H p = some (.lst xs) ∧ ixN xs.length k = some j ∧ Q (upd H p (.lst (xs.set j v)))
theorem set_list : PSet X rSetL := by
  intro pins s σ H o i v ov iv u Q I ro ri rv h
  obtain ⟨p, xs, k, j, rfl, rfl, hp, hj, q⟩ := h
  cases ro
  obtain ⟨t, rfl⟩ := ri
  obtain ⟨its, n, r, ho, hz⟩ := I.lst hp
  obtain ⟨h1, h2, h3, h4⟩ := ixN_seq hj
  have hl := r.length
  have hn := line63
  have I' : Inv X pins σ (upd H p (.lst (xs.set j v))) { s with heap := s.heap.update p (Obj.mapSeq (·.setIfInBounds j u)) } :=
    I.lstUpd hp ho (mapSeq_set its n j u) (r.set rv j) (by rw [List.length_set]; exact hz) s.toks
  by_cases h0 : 0 ≤ k
  · have hk : k.toNat = j := by
      rw [seqIndex_of h0 h4] at h1
      exact Option.some.inj h1
    exact PySem.W.ki_setAt ho h0 (by omega) (by rw [List.size_toArray, ← hl]; exact h4) (by rw [hk]; exact ⟨_, I', q⟩)
  · have hk : (k + (its.toArray.size : Int)).toNat = j := by
      rw [seqIndex_neg (by omega) h3] at h1
      rw [List.size_toArray, ← hl]
      exact Option.some.inj h1
    exact PySem.W.ki_setBack ho (by omega) (by rw [List.size_toArray, ← hl]; exact h3) (by omega) (by rw [hk]; exact ⟨_, I', q⟩)

/-! ### slices -/
theorem slice_bounds (lo hi : Option Int) (n : Nat) : (sliceBounds lo hi none n).1 = ((HT.sIx n 0 lo : Nat) : Int) ∧ (sliceBounds lo hi none n).2.1 = ((HT.sIx n n hi : Nat) : Int) ∧ (sliceBounds lo hi none n).2.2 = 1 := by
  refine ⟨?_, ?_, rfl⟩
  · cases lo with
    | none => simp [sliceBounds, HT.sIx]
    | some i =>
      simp only [sliceBounds, HT.sIx, Option.getD_none, show (1 : Int) > 0 by decide, if_true]
      by_cases h : i < 0
      · simp only [h, if_true] <;> omega
      · simp only [h, if_false] <;> omega
  · cases hi with
    | none => simp [sliceBounds, HT.sIx]
    | some i =>
      simp only [sliceBounds, HT.sIx, Option.getD_none, show (1 : Int) > 0 by decide, if_true]
      by_cases h : i < 0
      · simp only [h, if_true] <;> omega
      · simp only [h, if_false] <;> omega
theorem slicePick_cut (its : List Value) (lo hi : Option Int) : slicePick its.toArray lo hi none = ((its.drop (HT.sIx its.length 0 lo)).take (HT.sIx its.length its.length hi - HT.sIx its.length 0 lo)).toArray := by
  obtain ⟨h1, h2, h3⟩ := slice_bounds lo hi its.toArray.size
  unfold slicePick
  rw [h1, h2, h3]
  simp only [sliceRange_one, pick_run, List.size_toArray] <;> rfl
/-- xs[lo:hi] of a list: a new list -/
def rSlL (K : PySem.W.Frag) : V → Option Int → Option Int → Hp → VK → Prop := fun x lo hi H Q => ∃ a xs, x = .ref a ∧ SqL K H a xs ∧ ∀ p, H p = none → Q (.ref p) (upd H p (.lst (cutV xs lo hi)))
theorem sl_list : SlR X (rSlL X.K) := by
  intro pins s σ H x v vl vu lo hi sl Q I rx hs pl pu h
  obtain ⟨a, xs, rfl, hx, q⟩ := h
  cases rx
  obtain ⟨its, r, ht, hz⟩ := I.list hx
  have hlen := r.length
  refine ⟨"list", _, slot_list_getitem.lookup, ht.isList.typeIs, ?_⟩
  refine wpAny_getItem_list_slice ht.isList hs pl pu .none (by simp) ?_ (by rw [List.size_toArray] <;> omega)
  rw [slicePick_cut, ← hlen]
  refine ⟨.ref s.heap.objs.size, _, I.laid (t' := s.toks) (o := .lst (cutV xs lo hi)) (fun b ob q => Heap.get?_push_of_some _ q) (Nat.le_refl _) ?_, rfl, q _ (I.hok.fresh (Nat.le_refl _))⟩
  exact ⟨Nat.le_trans (cutV_length xs lo hi) hz, _, 0, (r.drop (HT.sIx xs.length 0 lo)).take (HT.sIx xs.length xs.length hi - HT.sIx xs.length 0 lo), Heap.get?_push_size _ rfl⟩

/-! ### in, not in: flat items -/
def flatV : V → Bool
  | .non => true
  | .bl _ => true
  | .int _ => true
  | .str _ => true
  | _ => false
/-- == of flat values -/
def eqV : V → V → Bool
  | .non, .non => true
  | .bl a, .bl b => a == b
  | .bl a, .int b => (if a then 1 else 0) == b
  | .int a, .bl b => a == (if b then 1 else 0)
  | .int a, .int b => a == b
  | .str a, .str b => a == b
  | _, _ => false
theorem eqAt_V {A : Around} {s : Shared} {y x : V} {u v : Value} (ry : RelV y u) (rx : RelV x v) (fy : flatV y = true) (fx : flatV x = true) : SeqAt.EqAt A s u v (eqV y x) := by
  cases y with
  | non =>
    cases ry
    cases x with
    | non => cases rx; exact SeqAt.EqAt.same _
    | bl b => cases rx; exact SeqAt.EqAt.none_bool b
    | int b => obtain ⟨t, rfl⟩ := rx; exact SeqAt.EqAt.none_int b t
    | str b => obtain ⟨t, rfl⟩ := rx; exact SeqAt.EqAt.none_str b t
    | _ => exact absurd (show false = true from fx) Bool.false_ne_true
  | bl a =>
    cases ry
    cases x with
    | non => cases rx; exact SeqAt.EqAt.bool_none a
    | bl b => cases rx; exact SeqAt.EqAt.bool_bool a b
    | int b => obtain ⟨t, rfl⟩ := rx; exact SeqAt.EqAt.bool_int a b t
    | str b => obtain ⟨t, rfl⟩ := rx; exact SeqAt.EqAt.bool_str a b t
    | _ => exact absurd (show false = true from fx) Bool.false_ne_true
  | int a =>
    obtain ⟨t', rfl⟩ := ry
    cases x with
    | non => cases rx; exact SeqAt.EqAt.int_none a t'
    | bl b => cases rx; exact SeqAt.EqAt.int_bool a t' b
    | int b => obtain ⟨t, rfl⟩ := rx; exact SeqAt.EqAt.int_int a t' b t
    | str b => obtain ⟨t, rfl⟩ := rx; exact SeqAt.EqAt.int_str a t' b t
    | _ => exact absurd (show false = true from fx) Bool.false_ne_true
  | str a =>
    obtain ⟨t', rfl⟩ := ry
    cases x with
    | non => cases rx; exact SeqAt.EqAt.str_none a t'
    | bl b => cases rx; exact SeqAt.EqAt.str_bool a t' b
    | int b => obtain ⟨t, rfl⟩ := rx; exact SeqAt.EqAt.str_int a t' b t
    | str b => obtain ⟨t, rfl⟩ := rx; exact SeqAt.EqAt.str_str a t' b t
    | _ => exact absurd (show false = true from fx) Bool.false_ne_true
  | _ => exact absurd (show false = true from fy) Bool.false_ne_true
/-- the items' answers, read off the values (a value's own answer does not lean on its token) -/
def eqU (x : V) (u : Value) : Bool := match u with
  | .none => eqV .non x
  | .bool b => eqV (.bl b) x
  | .int i _ => eqV (.int i) x
  | .str z _ => eqV (.str z) x
  | _ => false
theorem eqU_of {x y : V} {u : Value} (r : RelV y u) (f : flatV y = true) : eqU x u = eqV y x := by
  cases y with
  | non => cases r; rfl
  | bl b => cases r; rfl
  | int i => obtain ⟨t, rfl⟩ := r; rfl
  | str z => obtain ⟨t, rfl⟩ := r; rfl
  | _ => exact absurd (show false = true from f) Bool.false_ne_true
theorem any_eqU {x : V} : ∀ {xs : List V} {us : List Value}, Vals xs us → xs.all flatV = true → us.any (eqU x) = xs.any fun y => eqV y x
  | _, _, .nil, _ => rfl
  | y :: xs, u :: us, .cons r t, f => by
    rw [List.all_cons, Bool.and_eq_true] at f
    rw [List.any_cons, List.any_cons, eqU_of r f.1, any_eqU t f.2]
theorem mem_eqAt {A : Around} {s : Shared} {x : V} {v : Value} (rx : RelV x v) (fx : flatV x = true) : ∀ {xs : List V} {us : List Value}, Vals xs us → xs.all flatV = true → ∀ u ∈ us, SeqAt.EqAt A s u v (eqU x u)
  | _, _, .nil, _ => fun u hu => by cases hu
  | y :: xs, u :: us, .cons r t, f => fun u' hu => by
    rw [List.all_cons, Bool.and_eq_true] at f
    rcases List.mem_cons.mp hu with rfl | hu
    · rw [eqU_of r f.1]; exact eqAt_V r rx f.1 fx
    · exact mem_eqAt rx fx t f.2 u' hu
def inV (x : V) (xs : List V) : Bool := xs.any fun y => eqV y x
/-- x in a list or tuple of flat items -/
def rIn (K : PySem.W.Frag) (neg : Bool) : R2 := fun x y H Q => ∃ p xs, y = .ref p ∧ (SqL K H p xs ∨ SqT K H p xs) ∧ flatV x = true ∧ xs.all flatV = true ∧ Q (.bl (if neg then !inV x xs else inV x xs)) H
theorem op_in_seq : OpR X (compareOp .In) (rIn X.K false) := by
  intro pins s σ H x y v u Q I rx ry h
  obtain ⟨p, xs, rfl, hq, fx, fs, q⟩ := h
  cases ry
  rcases hq with hq | hq
  · obtain ⟨its, r, pl, hz⟩ := I.list hq
    refine SeqAt.in_listAt (eqU x) pl.isList (fun w hw => mem_eqAt rx fx r fs w (by simpa using hw)) ⟨.bl _, H, I, rfl, ?_⟩
    rw [show its.toArray.any (eqU x) = its.any (eqU x) by simp, any_eqU r fs]
    exact q
  · obtain ⟨its, r, pl, hz⟩ := I.tuple hq
    refine SeqAt.in_tupleAt (eqU x) pl (fun w hw => mem_eqAt rx fx r fs w (by simpa using hw)) ⟨.bl _, H, I, rfl, ?_⟩
    rw [show its.toArray.any (eqU x) = its.any (eqU x) by simp, any_eqU r fs]
    exact q
theorem op_notIn_seq : OpR X (compareOp .NotIn) (rIn X.K true) := by
  intro pins s σ H x y v u Q I rx ry h
  obtain ⟨p, xs, rfl, hq, fx, fs, q⟩ := h
  cases ry
  rcases hq with hq | hq
  · obtain ⟨its, r, pl, hz⟩ := I.list hq
    refine SeqAt.notIn_listAt (eqU x) pl.isList (fun w hw => mem_eqAt rx fx r fs w (by simpa using hw)) ⟨.bl _, H, I, rfl, ?_⟩
    rw [show its.toArray.any (eqU x) = its.any (eqU x) by simp, any_eqU r fs]
    exact q
  · obtain ⟨its, r, pl, hz⟩ := I.tuple hq
    refine SeqAt.notIn_tupleAt (eqU x) pl (fun w hw => mem_eqAt rx fx r fs w (by simpa using hw)) ⟨.bl _, H, I, rfl, ?_⟩
    rw [show its.toArray.any (eqU x) = its.any (eqU x) by simp, any_eqU r fs]
    exact q
theorem op_notIn_str : OpR X (compareOp .NotIn) (fun x y H Q => ∃ i j, x = .str i ∧ y = .str j ∧ Q (.bl (!(!(Builtin.Str.occurrences j i 0 j.length 1).isEmpty))) H) := by
  intro pins s σ H x y v u Q I rx ry h
  obtain ⟨i, j, rfl, rfl, q⟩ := h
  obtain ⟨t, rfl⟩ := rx
  obtain ⟨t', rfl⟩ := ry
  exact notIn_str ⟨.bl _, H, I, rfl, q⟩

/-! ### len, list(x), tuple(x) of any list or tuple that is read -/
theorem call_len_seq : CallR X (.builtin "len") (fun xs H Q => ∃ p ys, xs = [.ref p] ∧ (SqL X.K H p ys ∨ SqT X.K H p ys) ∧ Q (.int ys.length) H) := by
  intro pins s σ H xs us Q I r h
  obtain ⟨p, ys, rfl, hq, q⟩ := h
  obtain ⟨u, rfl, rx⟩ := vals1 r
  cases rx
  have hn := line63
  rcases hq with hq | hq
  · obtain ⟨its, r', pl, hz⟩ := I.list hq
    have hlen := r'.length
    exact Calls.call_len_list pl.isList (by simp only [List.size_toArray] <;> omega) ⟨.int ys.length, H, I.tok _, ⟨s.toks + 1, by rw [List.size_toArray, hlen]⟩, q⟩
  · obtain ⟨its, r', pl, hz⟩ := I.tuple hq
    have hlen := r'.length
    exact len_tuple pl (by simp only [List.size_toArray] <;> omega) ⟨.int ys.length, H, I.tok _, ⟨s.toks + 1, by rw [List.size_toArray, hlen]⟩, q⟩
theorem call_len_str : CallR X (.builtin "len") (fun xs H Q => ∃ z, xs = [.str z] ∧ z.length ≤ sizeLine ∧ Q (.int z.length) H) := by
  intro pins s σ H xs us Q I r h
  obtain ⟨z, rfl, hz, q⟩ := h
  obtain ⟨u, rfl, t, rfl⟩ := vals1 r
  have hn := line63
  exact len_str (by omega) ⟨.int z.length, H, I.tok _, ⟨_, rfl⟩, q⟩
theorem CallR.or {f : Value} {r r' : List V → Hp → VK → Prop} (h : CallR X f r) (h' : CallR X f r') : CallR X f (fun xs H Q => r xs H Q ∨ r' xs H Q) := by
  intro pins s σ H xs us Q I rs q
  rcases q with q | q
  · exact h pins s σ H xs us Q I rs q
  · exact h' pins s σ H xs us Q I rs q
theorem call_list_of : CallR X (.type "list") (fun xs H Q => ∃ p ys, xs = [.ref p] ∧ (SqL X.K H p ys ∨ SqT X.K H p ys) ∧ ∀ l, H l = none → Q (.ref l) (upd H l (.lst ys))) := by
  intro pins s σ H xs us Q I r h
  obtain ⟨p, ys, rfl, hq, q⟩ := h
  obtain ⟨u, rfl, rx⟩ := vals1 r
  cases rx
  have fin : ∀ (its : List Value), Vals ys its → ys.length ≤ sizeLine → ∀ (h' : Heap) (c' : Nat), (∀ b o', s.heap.get? b = some o' → h'.get? b = some o') →
      h'.get? s.heap.objs.size = some { cls := .type "list", dict := none, data := .seq its.toArray c', slots := #[] } → EP X pins σ Q (.ref s.heap.objs.size) { s with heap := h' } := fun its r' hz h' c' kp e =>
    ⟨.ref s.heap.objs.size, _, I.laid (t' := s.toks) kp (Nat.le_refl _) (show ObjOk X.prog X.w _ h' _ (.lst ys) from ⟨hz, its, c', r', e⟩), rfl, q _ (I.hok.fresh (Nat.le_refl _))⟩
  rcases hq with hq | hq
  · obtain ⟨its, r', pl, hz⟩ := I.list hq
    have hlen := r'.length
    obtain ⟨o, ho, hc, n, hd⟩ := pl.isList
    exact call_list_seq p (.inl rfl) ho hc hd (fun h' c' kp e => fin its r' hz h' c' kp e) (by simp only [List.size_toArray] <;> omega)
  · obtain ⟨its, r', pl, hz⟩ := I.tuple hq
    have hlen := r'.length
    obtain ⟨o, ho, hc, n, hd⟩ := pl
    exact call_list_seq p (.inr rfl) ho hc hd (fun h' c' kp e => fin its r' hz h' c' kp e) (by simp only [List.size_toArray] <;> omega)
theorem call_tuple_of : CallR X (.type "tuple") (fun xs H Q => ∃ p ys, xs = [.ref p] ∧ ((SqL X.K H p ys ∧ ∀ l, H l = none → Q (.ref l) (upd H l (.tup ys))) ∨ (SqT X.K H p ys ∧ Q (.ref p) H))) := by
  intro pins s σ H xs us Q I r h
  obtain ⟨p, ys, rfl, h⟩ := h
  obtain ⟨u, rfl, rx⟩ := vals1 r
  cases rx
  rcases h with ⟨hq, q⟩ | ⟨hq, q⟩
  · obtain ⟨its, r', pl, hz⟩ := I.list hq
    have hlen := r'.length
    refine call_tuple_list pl.isList (fun h' kp => ?_) (by simp only [List.size_toArray] <;> omega)
    have I1 : Inv X pins σ H { s with heap := h' } := I.kept (t' := s.toks) kp
    have I2 : Inv X pins σ (upd H h'.objs.size (.tup ys)) { s with heap := h'.push { cls := .type "tuple", data := .seq its.toArray } } :=
      I1.laid (t' := s.toks) (fun b o e => Heap.get?_push_of_some _ e) (Nat.le_refl _) (show ObjOk X.prog X.w _ _ _ (.tup ys) from ⟨hz, its, r', IsTup.new _ _⟩)
    exact ⟨.ref h'.objs.size, _, I2, rfl, q _ (I1.hok.fresh (Nat.le_refl _))⟩
  · obtain ⟨its, r', pl, hz⟩ := I.tuple hq
    exact call_tuple_same pl ⟨.ref p, H, I, rfl, q⟩

/-! ### the call of a builtin's method: o.m(..) -/
/-- the value is of that builtin type -/
def tyV (K : PySem.W.Frag) (T : String) (x : V) (H : Hp) : Prop := match x with
  | .str _ => T = "str"
  | .int _ => T = "int"
  | .ref p => (T = "list" ∧ ∃ xs, SqL K H p xs) ∨ (T = "tuple" ∧ ∃ o, K.lookup p = some o ∧ o.cls = .type "tuple" ∧ o.dict = none) ∨
      (T = "dict" ∧ ((∃ kvs, H p = some (.dK kvs)) ∨ ∃ kvs, H p = some (.dT kvs))) ∨ (T = "set" ∧ ∃ S n, H p = some (.set S n))
  | _ => False
theorem tyV_is {pins : List (Addr × Obj)} {σ : St} {H : Hp} {s : Shared} {T : String} {x : V} {v : Value} (I : Inv X pins σ H s) (r : RelV x v) (ty : tyV X.K T x H) :
    s.TypeIs v T ∧ ∀ a, v = .ref a → ∃ ob, s.heap.get? a = some ob ∧ ob.dict = none := by
  cases x with
  | str z =>
    obtain ⟨t, rfl⟩ := r
    cases (show T = "str" from ty)
    exact ⟨typeIs_str s z t, fun _ e => nomatch e⟩
  | int i =>
    obtain ⟨t, rfl⟩ := r
    cases (show T = "int" from ty)
    exact ⟨typeIs_int s i t, fun _ e => nomatch e⟩
  | ref p =>
    cases r
    rcases ty with ⟨rfl, xs, hq⟩ | ⟨rfl, o, hk, hc, hd⟩ | ⟨rfl, hk⟩ | ⟨rfl, S, n, hk⟩
    · obtain ⟨its, _, pl, _⟩ := I.list hq
      refine ⟨pl.isList.typeIs, fun a e => ?_⟩
      cases e
      obtain ⟨o, n, e, c, hd, _⟩ := pl
      exact ⟨o, e, hd⟩
    · refine ⟨⟨o, I.kIn p o hk, hc⟩, fun a e => ?_⟩
      cases e
      exact ⟨o, I.kIn _ o hk, hd⟩
    · have z : ∃ o, s.heap.get? p = some o ∧ o.ExactDict := by
        rcases hk with ⟨kvs, hk⟩ | ⟨kvs, hk⟩
        · obtain ⟨_, _, _, _, o, _, _, e, ex, _⟩ := I.hok p _ hk
          exact ⟨o, e, ex⟩
        · obtain ⟨_, _, _, _, o, _, _, e, ex, _⟩ := I.hok p _ hk
          exact ⟨o, e, ex⟩
      obtain ⟨o, e, ex⟩ := z
      refine ⟨⟨o, e, ex.1⟩, fun a e2 => ?_⟩
      cases e2
      exact ⟨o, e, ex.2.1⟩
    · obtain ⟨o, _, _, _, e, ex, _⟩ := I.hok p _ hk
      refine ⟨⟨o, e, ex.1⟩, fun a e2 => ?_⟩
      cases e2
      exact ⟨o, e, ex.2.1⟩
  | _ => exact False.elim ty
def tBM0 (K : PySem.W.Frag) (T : String) (r : V → List V → Hp → VK → Prop) (to : TE) : TE := fun σ H Q => to σ H fun x H1 => tyV K T x H1 ∧ r x [] H1 Q
def tBM (K : PySem.W.Frag) (T : String) (r : V → List V → Hp → VK → Prop) (to : TE) (t : TA) : TE := fun σ H Q => to σ H fun x H1 => tyV K T x H1 ∧ t σ H1 fun xs H2 => r x xs H2 Q
variable {o e : Expr} {es : List Expr} {to : TE} {t : TA} {name : Str} {apos cpos : Pos} {T id : String} {r : V → List V → Hp → VK → Prop}
theorem pe_bm0 (pa : PlainAttrs T) (slot : Slot T name id) (hty : typeOf (.builtin id) = pure (.type "method_descriptor")) (hm : MtR X id r) (ho : PE X o to)
    (hbase : attributeBase o name X.env (eval o X.env) = eval o X.env := by rfl) (hline : (apos.endLine == cpos.line) = true := by rfl) : PE X (.Call (.Attribute o name apos) [] [] cpos) (tBM0 X.K T r to) := by
  intro pins s σ H Q I h
  refine wpAny_Call_method0_late hbase hline (thn (ho pins s σ H _ I h) fun v s1 ⟨x, H1, I1, r1, ty, q1⟩ => ?_)
  obtain ⟨h1, h2⟩ := tyV_is I1 r1 ty
  exact ⟨T, id, pa, slot, hty, h1, h2, Calls.callWith_builtin rfl (PySem.evalArgs_none (hm pins s1 σ H1 x [] v [] Q I1 r1 .nil q1))⟩
theorem pe_bm (pa : PlainAttrs T) (slot : Slot T name id) (hty : typeOf (.builtin id) = pure (.type "method_descriptor")) (hm : MtR X id r) (ho : PE X o to) (ha : PA X (e :: es) t)
    (hbase : attributeBase o name X.env (eval o X.env) = eval o X.env := by rfl)
    (hfew : ((backTo cpos (starEach (e :: es) X.env)).all (fun x => !x.1) && (backToKw cpos (keywordEach [] X.env)).all (fun x => x.1.isSome)
      && decide ((e :: es).length + ([] : List Keyword).length + (if ([] : List Keyword).isEmpty then 0 else 1) < 30)) = true := by rfl)
    (hline : (apos.endLine == cpos.line) = true := by rfl) (hs : starEach (e :: es) X.env = (false, eval e X.env) :: starEach es X.env := by rfl) (hplain : (backTo cpos (starEach es X.env)).any (·.1) = false := by rfl) :
    PE X (.Call (.Attribute o name apos) (e :: es) [] cpos) (tBM X.K T r to t) := by
  intro pins s σ H Q I h
  refine wpAny_Call_method_late hbase hfew hline rfl (thn (ho pins s σ H _ I h) fun v s1 ⟨x, H1, I1, r1, ty, q1⟩ => ?_)
  obtain ⟨h1, h2⟩ := tyV_is I1 r1 ty
  refine ⟨T, id, pa, slot, hty, h1, h2, ?_⟩
  have hA := ha cpos pins s1 σ H1 _ I1 q1
  rw [hs] at hA ⊢
  refine Calls.callWith_builtin (by show (false || (backTo cpos (starEach es X.env)).any (·.1)) = false; rw [hplain] <;> rfl) (Calls.evalArgs_plain ?_)
  exact thn hA fun us s2 ⟨vs, H2, I2, r2, q2⟩ => hm pins s2 σ H2 x vs v us Q I2 r1 r2 q2
/- xs.append(e), list.index on a module's tuple .. are MtR facts of 06m -/
end
end L2

namespace L2
open PySem PySem.Spec PyProof.Rows

def MtM (X : Cx) (id : String) (r : V → List V → Hp → VK → Prop) : Prop :=
  ∀ (pins : List (Addr × Obj)) (s : Shared) (σ : St) (H : Hp) (x : V) (xs : List V) (v : Value) (us : List Value) (Q : VK), Inv X pins σ H s → RelV x v → Vals xs us → r x xs H Q →
    wpAny (model X.prog X.w) X.A (call (.builtin id) (v :: us)) (EP X pins σ Q) X.xe s

/-! ### lists of values -/
theorem Vals.one : ∀ {x : V} {us : List Value}, Vals [x] us → ∃ u, us = [u] ∧ RelV x u
  | _, _, .cons r .nil => ⟨_, rfl, r⟩
theorem Vals.two : ∀ {x y : V} {us : List Value}, Vals [x, y] us → ∃ u v, us = [u, v] ∧ RelV x u ∧ RelV y v
  | _, _, _, .cons r (.cons q .nil) => ⟨_, _, rfl, r, q⟩
theorem Vals.zero : ∀ {us : List Value}, Vals [] us → us = []
  | _, .nil => rfl
theorem Vals.dropLast {xs : List V} {us : List Value} (h : Vals xs us) : Vals xs.dropLast us.dropLast := by
  induction h with
  | nil => exact .nil
  | cons r t ih =>
    cases t with
    | nil => exact .nil
    | cons q t' => exact .cons r ih
theorem Vals.eraseIdx : ∀ {xs : List V} {us : List Value} (i : Nat), Vals xs us → Vals (xs.eraseIdx i) (us.eraseIdx i)
  | _, _, _, .nil => .nil
  | _, _, 0, .cons _ t => t
  | _, _, i + 1, .cons r t => .cons r (Vals.eraseIdx i t)
theorem Vals.reverse {xs : List V} {us : List Value} (h : Vals xs us) : Vals xs.reverse us.reverse := by
  induction h with
  | nil => exact .nil
  | cons r t ih => rw [List.reverse_cons, List.reverse_cons]; exact Vals.append ih (.cons r .nil)
theorem Vals.rep {xs : List V} {us : List Value} (h : Vals xs us) : ∀ k : Nat, Vals (List.replicate k xs).flatten (List.replicate k us).flatten
  | 0 => .nil
  | k + 1 => by
    rw [List.replicate_succ, List.replicate_succ, List.flatten_cons, List.flatten_cons]
    exact Vals.append h (Vals.rep h k)
theorem erase_last {α : Type} (l : List α) : l.eraseIdx (l.length - 1) = l.dropLast := by
  induction l with
  | nil => rfl
  | cons a r ih =>
    cases r with
    | nil => rfl
    | cons b r =>
      have e : (a :: b :: r).length - 1 = ((b :: r).length - 1) + 1 := by
        have h1 : (a :: b :: r).length = r.length + 2 := rfl
        have h2 : (b :: r).length = r.length + 1 := rfl
        omega
      rw [e, List.eraseIdx_cons_succ, ih]
      all_goals rfl
theorem len_erase {α : Type} : ∀ (l : List α) (i : Nat), (l.eraseIdx i).length ≤ l.length
  | [], _ => Nat.le_refl _
  | _ :: _, 0 => Nat.le_succ _
  | _ :: r, i + 1 => Nat.succ_le_succ (len_erase r i)
theorem foldl_rep (its : List Value) : ∀ (k : Nat) (acc : List Value),
    List.foldl (fun x1 x2 => x1 ++ x2) acc.toArray (List.replicate k its.toArray) = (acc ++ (List.replicate k its).flatten).toArray
  | 0, acc => by simp
  | k + 1, acc => by
    have e : acc.toArray ++ its.toArray = (acc ++ its).toArray := by simp
    have e2 : (acc ++ its) ++ (List.replicate k its).flatten = acc ++ (List.replicate (k + 1) its).flatten := by
      rw [List.replicate_succ, List.flatten_cons, List.append_assoc]
    rw [← e2, ← foldl_rep its k (acc ++ its), ← e, List.replicate_succ, List.foldl_cons]

section
variable {X : Cx} {pins : List (Addr × Obj)} {σ : St} {H : Hp} {s : Shared} {l b : Addr} {xs ys zs : List V}

/-! ### the two steps: a tracked list is rewritten, a new list is laid -/
theorem Inv.lset {its its' : List Value} {n : Nat} {f : Array Value → Array Value} {t' : Nat} (I : Inv X pins σ H s) (hH : H l = some (.lst xs))
    (e : s.heap.get? l = some { cls := .type "list", data := .seq its.toArray n }) (hf : f its.toArray = its'.toArray) (hv : Vals ys its') (hz : ys.length ≤ sizeLine) :
    Inv X pins σ (upd H l (.lst ys)) { s with heap := s.heap.update l (Obj.mapSeq f), toks := t' } := by
  have q := PySem.IsL.update e f
  rw [hf] at q
  refine I.write (x := l) (e := l) (by rw [hH]; exact trivial) (.inl rfl) (fun b' u hb hu => (Heap.get?_update_other s.heap (Obj.mapSeq f) (Ne.symm hb)).trans hu) ⟨_, q⟩ ?_
  exact ⟨hz, its', _, hv, q⟩
theorem Inv.lnew {its : List Value} {t' : Nat} (I : Inv X pins σ H s) (hv : Vals ys its) (hz : ys.length ≤ sizeLine) :
    Inv X pins σ (upd H s.heap.objs.size (.lst ys)) { s with heap := s.heap.push { cls := .type "list", data := .seq its.toArray }, toks := t' } :=
  I.laid (fun _ _ q => Heap.get?_push_of_some _ q) (Nat.le_refl _) ⟨hz, its, 0, hv, Heap.get?_push_size _ rfl⟩
theorem Inv.fresh (I : Inv X pins σ H s) : H s.heap.objs.size = none := I.hok.fresh (Nat.le_refl _)
theorem Inv.lstM (I : Inv X pins σ H s) (hH : H l = some (.lst xs)) : xs.length ≤ sizeLine ∧ ∃ (its : List Value) (n : Nat), Vals xs its ∧ xs.length = its.length ∧ s.heap.get? l = some { cls := .type "list", data := .seq its.toArray n } := by
  obtain ⟨z, its, n, r, e⟩ := I.hok l _ hH
  exact ⟨z, its, n, r, r.length, e⟩

theorem notLongL {n : Nat} (h : n ≤ sizeLine) : Builtin.List.listTooLong n = false := by
  unfold Builtin.List.listTooLong
  exact decide_eq_false (by omega)
end

section
variable {X : Cx}

/-! ### methods -/
def rAppend : V → List V → Hp → VK → Prop := fun x vs H Q => ∃ l xs y, x = .ref l ∧ vs = [y] ∧ H l = some (.lst xs) ∧ xs.length < sizeLine ∧ Q .non (upd H l (.lst (xs ++ [y])))
theorem mt_append : MtM X "list.append" rAppend := by
  intro pins s σ H x vs v us Q I rx rv h
  obtain ⟨l, xs, y, rfl, rfl, hH, hz, q⟩ := h
  cases rx
  obtain ⟨u, rfl, ru⟩ := rv.one
  obtain ⟨z, its, n, r, hl, e⟩ := I.lstM hH
  refine call_meets F.slot_list_append ⟨_, e, rfl⟩ F.entry_list_append (F.args_list_append_2 _ _) (PySem.list_append l its.toArray n u (by rw [List.size_toArray]; omega)) ⟨e, ?_⟩
  refine ⟨.non, _, I.lset (its' := its ++ [u]) hH e (by simp) (r.append (.cons ru .nil)) ?_, rfl, q⟩
  rw [List.length_append, List.length_singleton]
  omega

def rExtend : V → List V → Hp → VK → Prop := fun x vs H Q => ∃ l b xs zs, x = .ref l ∧ vs = [.ref b] ∧ H l = some (.lst xs) ∧ H b = some (.lst zs) ∧ xs.length + zs.length ≤ sizeLine ∧ Q .non (upd H l (.lst (xs ++ zs)))
theorem mt_extend : MtM X "list.extend" rExtend := by
  intro pins s σ H x vs v us Q I rx rv h
  obtain ⟨l, b, xs, zs, rfl, rfl, hH, hB, hz, q⟩ := h
  cases rx
  obtain ⟨u, rfl, ru⟩ := rv.one
  cases ru
  obtain ⟨z, its, n, r, hl, e⟩ := I.lstM hH
  obtain ⟨z2, its2, n2, r2, hl2, e2⟩ := I.lstM hB
  have hsz : its.toArray.size + its2.toArray.size ≤ sizeLine := by rw [List.size_toArray, List.size_toArray]; omega
  have hlong : ¬ (!its.toArray.isEmpty && Builtin.List.listTooLong (its.toArray.size + its2.toArray.size)) = true := by
    rw [notLongL hsz, Bool.and_false]
    exact Bool.false_ne_true
  refine call_meets F.slot_list_extend ⟨_, e, rfl⟩ F.entry_list_extend (F.args_list_extend_2 _ _)
    (AutoSeq1.list_extend_list_list_0 l its.toArray n b its2.toArray n2 hlong (by rw [List.size_toArray]; omega) (by omega)) ⟨e, e2, ?_⟩
  refine ⟨.non, _, I.lset (its' := its ++ its2) hH e (by simp) (r.append r2) ?_, rfl, q⟩
  rw [List.length_append]
  omega

def rPop : V → List V → Hp → VK → Prop := fun x vs H Q => ∃ l xs y, x = .ref l ∧ vs = [] ∧ H l = some (.lst xs) ∧ xs[xs.length - 1]? = some y ∧ Q y (upd H l (.lst xs.dropLast))
theorem mt_pop : MtM X "list.pop" rPop := by
  intro pins s σ H x vs v us Q I rx rv h
  obtain ⟨l, xs, y, rfl, rfl, hH, hy, q⟩ := h
  cases rx
  have hus := rv.zero
  subst hus
  obtain ⟨z, its, n, r, hl, e⟩ := I.lstM hH
  obtain ⟨u, hu, ru⟩ := r.get hy
  have hy' : its.toArray[its.toArray.size - 1]? = some u := by
    show its.toArray[its.length - 1]? = some u
    rw [← Array.getElem?_toList, ← hl]
    exact hu
  refine call_meets F.slot_list_pop ⟨_, e, rfl⟩ F.entry_list_pop (F.args_list_pop_1 _) (MeetsSeq.list_pop_last l its.toArray n u hy' (by rw [List.size_toArray]; omega)) ⟨e, ?_⟩
  refine ⟨y, _, I.lset (its' := its.dropLast) hH e ?_ r.dropLast ?_, ru, q⟩
  · show its.toArray.eraseIdxIfInBounds (its.toArray.size - 1) = its.dropLast.toArray
    rw [List.size_toArray, List.eraseIdxIfInBounds_toArray, erase_last]
  · rw [List.length_dropLast]
    omega

def rPopAt : V → List V → Hp → VK → Prop := fun x vs H Q => ∃ l xs i k y, x = .ref l ∧ vs = [.int i] ∧ H l = some (.lst xs) ∧ -(2 ^ 63) ≤ i ∧ i < 2 ^ 63 ∧ seqIndex? i xs.length = some k ∧ xs[k]? = some y ∧ Q y (upd H l (.lst (xs.eraseIdx k)))
theorem mt_popAt : MtM X "list.pop" rPopAt := by
  intro pins s σ H x vs v us Q I rx rv h
  obtain ⟨l, xs, i, k, y, rfl, rfl, hH, h1, h2, hk, hy, q⟩ := h
  cases rx
  obtain ⟨u, rfl, ru⟩ := rv.one
  obtain ⟨t, rfl⟩ := ru
  obtain ⟨z, its, n, r, hl, e⟩ := I.lstM hH
  obtain ⟨w, hw, rw'⟩ := r.get hy
  refine call_meets F.slot_list_pop ⟨_, e, rfl⟩ F.entry_list_pop (F.args_list_pop_2 _ _)
    (MeetsSeq.list_pop_at l its.toArray n i t k w (fitsIndex_both h1 h2) (by rw [List.size_toArray, ← hl]; exact hk) (by rw [← Array.getElem?_toList]; exact hw) (by rw [List.size_toArray]; omega)) ⟨e, ?_⟩
  refine ⟨y, _, I.lset (its' := its.eraseIdx k) hH e ?_ (r.eraseIdx k) ?_, rw', q⟩
  · show its.toArray.eraseIdxIfInBounds k = (its.eraseIdx k).toArray
    rw [List.eraseIdxIfInBounds_toArray]
  · have := len_erase xs k
    omega

def rReverse : V → List V → Hp → VK → Prop := fun x vs H Q => ∃ l xs, x = .ref l ∧ vs = [] ∧ H l = some (.lst xs) ∧ Q .non (upd H l (.lst xs.reverse))
theorem mt_reverse : MtM X "list.reverse" rReverse := by
  intro pins s σ H x vs v us Q I rx rv h
  obtain ⟨l, xs, rfl, rfl, hH, q⟩ := h
  cases rx
  have hus := rv.zero
  subst hus
  obtain ⟨z, its, n, r, hl, e⟩ := I.lstM hH
  refine call_meets F.slot_list_reverse ⟨_, e, rfl⟩ F.entry_list_reverse (F.args_list_reverse_1 _) (AutoSeq1.list_reverse_list_0 l its.toArray n (by rw [List.size_toArray]; omega)) ⟨e, ?_⟩
  refine ⟨.non, _, I.lset (its' := its.reverse) hH e (by simp) r.reverse ?_, rfl, q⟩
  rw [List.length_reverse]
  omega

def rClear : V → List V → Hp → VK → Prop := fun x vs H Q => ∃ l xs, x = .ref l ∧ vs = [] ∧ H l = some (.lst xs) ∧ Q .non (upd H l (.lst []))
theorem mt_clear : MtM X "list.clear" rClear := by
  intro pins s σ H x vs v us Q I rx rv h
  obtain ⟨l, xs, rfl, rfl, hH, q⟩ := h
  cases rx
  have hus := rv.zero
  subst hus
  obtain ⟨z, its, n, r, hl, e⟩ := I.lstM hH
  refine call_meets F.slot_list_clear ⟨_, e, rfl⟩ F.entry_list_clear (F.args_list_clear_1 _) (AutoSeq1.list_clear_list_0 l its.toArray n (by rw [List.size_toArray]; omega)) ⟨e, ?_⟩
  exact ⟨.non, _, I.lset (its' := []) (ys := []) hH e rfl .nil (Nat.zero_le _), rfl, q⟩

/-! ### list + list, list += list, list * int -/
def rCat : R2 := fun x y H Q => ∃ l b xs zs, x = .ref l ∧ y = .ref b ∧ H l = some (.lst xs) ∧ H b = some (.lst zs) ∧ xs.length + zs.length ≤ sizeLine ∧ ∀ p, H p = none → Q (.ref p) (upd H p (.lst (xs ++ zs)))
theorem op_cat : OpR X (binaryOp .Add) rCat := by
  intro pins s σ H x y v u Q I rx ry h
  obtain ⟨l, b, xs, zs, rfl, rfl, hH, hB, hz, q⟩ := h
  cases rx
  cases ry
  obtain ⟨z, its, n, r, hl, e⟩ := I.lstM hH
  obtain ⟨z2, its2, n2, r2, hl2, e2⟩ := I.lstM hB
  refine PySem.P.add_list e e2 ?_ (by rw [List.size_toArray, List.size_toArray]; omega)
  have ea : its.toArray ++ its2.toArray = (its ++ its2).toArray := by simp
  rw [ea]
  exact ⟨.ref _, _, I.lnew (t' := s.toks) (r.append r2) (by rw [List.length_append]; omega), rfl, q _ I.fresh⟩
/-- a list times an int (a negative one is nothing) -/
def rRep : R2 := fun x y H Q => ∃ l k xs, x = .ref l ∧ y = .int k ∧ H l = some (.lst xs) ∧ -(2 ^ 63) ≤ k ∧ k < 2 ^ 63 ∧ xs.length * k.toNat ≤ sizeLine ∧
  ∀ p, H p = none → Q (.ref p) (upd H p (.lst (List.replicate k.toNat xs).flatten))
theorem len_rep {α : Type} (xs : List α) (k : Nat) : (List.replicate k xs).flatten.length = k * xs.length := by
  induction k with
  | zero => simp
  | succ k ih => rw [List.replicate_succ, List.flatten_cons, List.length_append, ih, Nat.succ_mul, Nat.add_comm]
theorem op_rep : OpR X (binaryOp .Mult) rRep := by
  intro pins s σ H x y v u Q I rx ry h
  obtain ⟨l, k, xs, rfl, rfl, hH, h1, h2, hz, q⟩ := h
  cases rx
  obtain ⟨t, rfl⟩ := ry
  obtain ⟨z, its, n, r, hl, e⟩ := I.lstM hH
  have hlen : its.toArray.size * k.toNat ≤ sizeLine := by rw [List.size_toArray, ← hl]; exact hz
  have hcap : ¬ its.toArray.size * k.toNat > (2 ^ 63 - 1) / 8 := by
    have : (sizeLine : Nat) ≤ (2 ^ 63 - 1) / 8 := by decide
    omega
  have hfit : ¬ (!Builtin.List.listFitsIndex k) = true := by
    rw [fitsIndex_both h1 h2]
    exact Bool.false_ne_true
  have hlong : ¬ Builtin.List.listTooLong (its.toArray.size * k.toNat) = true := by
    rw [notLongL hlen]
    exact Bool.false_ne_true
  have hnew : List.foldl (fun x1 x2 => x1 ++ x2) #[] (List.replicate (if its.toArray.isEmpty = true then 0 else k.toNat) its.toArray) = (List.replicate k.toNat its).flatten.toArray := by
    have f0 : ∀ m : Nat, List.foldl (fun x1 x2 => x1 ++ x2) #[] (List.replicate m its.toArray) = (List.replicate m its).flatten.toArray := fun m => by
      have := foldl_rep its m []
      rw [List.nil_append] at this
      exact this
    rw [f0]
    cases its with
    | nil => simp
    | cons a r' => rw [if_neg (by simp)]
  refine wpAny_binaryOp_repeat_ref (T := "list") (U := "int") (by decide) ⟨_, e, rfl⟩ (fun s' => typeIs_int s' k t) noFill_list_mul F.fills_int_mul F.slot_int_rmul repeat_list F.slot_int_index.lookup
    (call_meets F.slot_int_rmul (typeIs_int s k t) F.entry_int_rmul (F.args_int_rmul_2 _ _) (int___rmul___int_list k t l its.toArray n)
      ⟨e, rfl, ⟨_, e, rfl⟩, call_meets F.slot_list_mul ⟨_, e, rfl⟩ F.entry_list_mul (F.args_list_mul_2 _ _) (AutoListH.list___mul___list_int_3 l its.toArray n k t hfit hcap hlong) ⟨e, ?_⟩⟩)
  rw [hnew]
  exact ⟨.ref _, _, I.lnew (t' := s.toks) (r.rep k.toNat) (by rw [len_rep, Nat.mul_comm]; exact hz), rfl, q _ I.fresh⟩

/-! ### del xs[i] -/
theorem del_list {pins : List (Addr × Obj)} {s : Shared} {σ : St} {H : Hp} {l : Addr} {xs : List V} {i : Int} {t : Tok} {k : Nat} {Q : Unit → Shared → Prop} (I : Inv X pins σ H s) (hH : H l = some (.lst xs))
    (h1 : -(2 ^ 63) ≤ i) (h2 : i < 2 ^ 63) (hk : seqIndex? i xs.length = some k) (h : ∀ s', Inv X pins σ (upd H l (.lst (xs.eraseIdx k))) s' → Q () s') :
    wpAny (model X.prog X.w) X.A (delItem (.ref l) (.int i t)) Q X.xe s := by
  obtain ⟨z, its, n, r, hl, e⟩ := I.lstM hH
  refine PySem.P.delItem_list (k := k) e (fitsIndex_both h1 h2) (by rw [List.size_toArray, ← hl]; exact hk) (h _ ?_) (by rw [List.size_toArray]; omega)
  refine I.lset (its' := its.eraseIdx k) (t' := s.toks) hH e ?_ (r.eraseIdx k) ?_
  · show its.toArray.eraseIdxIfInBounds k = (its.eraseIdx k).toArray
    rw [List.eraseIdxIfInBounds_toArray]
  · have := len_erase xs k
    omega
end

/-! ### xs[a:b] = ys -/
section
variable {prog : Program} {w : World} {A : Around} {E : Value → Shared → Prop} {s : Shared}
theorem splice_eq (its its2 : List Value) (a c : Nat) : its.toArray.extract 0 a ++ its2.toArray ++ its.toArray.extract c its.toArray.size = (its.take a ++ its2 ++ its.drop c).toArray := by
  apply Array.toList_inj.mp
  first
    | (simp
       exact List.take_of_length_le (by simp))
    | simp [List.take_of_length_le]
    | simp
theorem bounds_run {a c n : Nat} (hac : a ≤ c) (hc : c ≤ n) : sliceBounds (some (a : Int)) (some (c : Int)) none n = ((a : Int), (c : Int), 1) := by
  simp only [sliceBounds, Option.getD_none]
  have h1 : ¬ ((a : Int) < 0) := by omega
  have h2 : ¬ ((c : Int) < 0) := by omega
  simp only [h1, h2, if_false, show (1 : Int) > 0 by decide, if_true]
  congr 1
  · omega
  · congr 1; omega
set_option maxRecDepth 100000 in
/-- list.__setitem__ with a slice of step one and another list -/
theorem setItem_slice {l b sl : Addr} {items new : Array Value} {n n2 : Nat} {vl vu : Value} {a c : Nat} {Q : Unit → Shared → Prop}
    (e : s.heap.get? l = some { cls := .type "list", data := .seq items n }) (e2 : s.heap.get? b = some { cls := .type "list", data := .seq new n2 }) (hne : l ≠ b)
    (hs : s.heap.IsSliceOf sl vl vu .none) (pl : IsPart vl (some (a : Int))) (pu : IsPart vu (some (c : Int))) (hac : a ≤ c) (hc : c ≤ items.size)
    (hsz : items.size + new.size ≤ sizeLine) (h : Q () { s with heap := s.heap.update l (Obj.mapSeq fun xs => xs.extract 0 a ++ new ++ xs.extract c xs.size) }) :
    wpAny (model prog w) A (setItem (.ref l) (.ref sl) (.ref b)) Q E s := by
  have hl : s.heap.IsList l items := PySem.IsL.isList e
  have hb : s.heap.IsList b new := PySem.IsL.isList e2
  obtain ⟨os, hos, hcs, hds⟩ := id hs
  have hTs : s.TypeIs (.ref sl) "slice" := ⟨os, hos, hcs⟩
  have hstep : ¬ ((rawPart none == rawInt 0) = true) := Bool.false_ne_true
  have hsame : Builtin.List.listSameRef (.ref l) (.ref b) = false := by
    unfold Builtin.List.listSameRef
    exact beq_eq_false_iff_ne.mpr hne
  have hmax : (max (a : Int) (c : Int)).toNat = c := by omega
  have hz' : ((fun xs : Array Value => xs.extract 0 a ++ new ++ xs.extract c xs.size) items).size ≤ sizeLine + 1 := by
    simp only [Array.size_append, Array.size_extract]
    omega
  unfold setItem
  try with_reducible refine wpAny_holding ?_
  first | refine wpAny_bind (wpAny_pure ?_) | skip
  refine wpAny_bind (wpAny_sequenceKey hl.typeIs (by decide) ?_)
  refine wpAny_bind (wpAny_callSpecial?_slot (name := Str.ofString "__setitem__") hl.typeIs slot_list_setitem
    (wpAny_call_entry slot_list_setitem hl.typeIs entry_list_setitem ?_ (args_list_setitem _ _ _)))
  show wpAny _ _ (Builtin.List.listSubscript? (.ref sl) >>= _) _ _ s
  refine wpAny_bind ?_
  unfold Builtin.List.listSubscript?
  refine wpAny_bind (wpAny_specialOf hTs slice_no_index ?_)
  simp only [Option.isNone_none, if_true]
  refine wpAny_pure ?_
  show wpAny _ _ (typeOf (.ref sl) >>= _) _ _ s
  refine wpAny_bind (wpAny_typeOf hTs ?_)
  first
    | rw [if_neg (by decide)]
    | refine PySem.W.KFB.if_not (by decide) ?_
  rw [listSliceParts_eq]
  refine wpAny_bind (wpAny_bind (wpAny_field hos hds (x := .none) rfl (wpAny_bind (wpAny_listPart .none ?_))))
  rw [if_neg hstep]
  refine wpAny_bind (wpAny_field hos hds (x := vl) rfl (wpAny_bind (wpAny_listPart pl ?_)))
  refine wpAny_bind (wpAny_field hos hds (x := vu) rfl (wpAny_bind (wpAny_listPart pu (wpAny_pure ?_))))
  first
    | simp only [hsame, Bool.false_eq_true, if_false]
    | refine PySem.W.KFB.if_not hsame ?_
    | (dsimp only
       rw [if_neg (by rw [hsame]; exact Bool.false_ne_true)])
  refine wpAny_bind (m := Builtin.List.listAllItems (.ref b) "must assign iterable to extended slice") ?_
  unfold Builtin.List.listAllItems
  refine wpAny_bind (wpAny_typeOf hb.typeIs ?_)
  first
    | refine PySem.W.KFB.if_so (by decide) ?_
    | rw [if_pos (by decide)]
    | simp only [beq_self_eq_true, Bool.true_or, if_true]
  unfold Builtin.List.listItems
  refine wpAny_bind (wpAny_seqItems e2 rfl (wpAny_pure ?_))
  refine wpAny_bind (wpAny_bind (wpAny_seqItems e rfl (wpAny_pure ?_)))
  refine wpAny_bind (wpAny_of_eq ((sliceIndices_raw (some (a : Int)) (some (c : Int)) none items.size (by simp)).trans (congrArg (pure : Int × Int × Int → Sem (Int × Int × Int)) (bounds_run hac hc))) ?_)
  show wpAny _ _ (if ((1 : Int) == 1) = true then _ else _) _ _ s
  rw [if_pos (by decide)]
  refine wpAny_bind (wpAny_rule ?_)
  first
    | simp only [notLongL hsz, Bool.false_eq_true, if_false]
    | refine PySem.W.KFB.if_not (notLongL hsz) ?_
  first | refine wpAny_bind (wpAny_pure ?_) | skip
  show wpAny _ _ (updateSeq l (fun xs => xs.extract 0 ((a : Int)).toNat ++ new ++ xs.extract (max (a : Int) (c : Int)).toNat xs.size) >>= _) _ _ s
  rw [hmax, Int.toNat_natCast]
  refine wpAny_bind (wpAny_updateSeq (hz := Nat.le_trans (Nat.le_add_right _ _) hsz) (_hz' := hz') e rfl ?_)
  refine wpAny_bind (wpAny_letGo ?_)
  first
    | exact wpAny_bind (wpAny_pure (wpAny_pure ⟨.none, rfl, wpAny_pure h⟩))
    | exact wpAny_pure ⟨.none, rfl, wpAny_pure h⟩
end

section
variable {X : Cx}
/-- xs[a:c] = ys of another list, at the value level: sl is the slice object that was just made -/
theorem set_slice {pins : List (Addr × Obj)} {s : Shared} {σ : St} {H : Hp} {l b sl : Addr} {xs ys : List V} {a c : Int} {vl vu : Value} {Q : Unit → Shared → Prop} (I : Inv X pins σ H s)
    (hH : H l = some (.lst xs)) (hB : H b = some (.lst ys)) (hne : l ≠ b) (hs : s.heap.IsSliceOf sl vl vu .none) (ra : RelV (.int a) vl) (rc : RelV (.int c) vu) (h0 : 0 ≤ a) (hac : a ≤ c) (hc : c ≤ xs.length)
    (hz : xs.length + ys.length ≤ sizeLine) (h : ∀ s', Inv X pins σ (upd H l (.lst (xs.take a.toNat ++ ys ++ xs.drop c.toNat))) s' → Q () s') :
    wpAny (model X.prog X.w) X.A (setItem (.ref l) (.ref sl) (.ref b)) Q X.xe s := by
  obtain ⟨ta, rfl⟩ := ra
  obtain ⟨tc, rfl⟩ := rc
  obtain ⟨z, its, n, r, hl, e⟩ := I.lstM hH
  obtain ⟨z2, its2, n2, r2, hl2, e2⟩ := I.lstM hB
  obtain ⟨a', rfl⟩ := Int.eq_ofNat_of_zero_le h0
  obtain ⟨c', rfl⟩ := Int.eq_ofNat_of_zero_le (Int.le_trans h0 hac)
  simp only [Int.toNat_natCast] at h
  refine setItem_slice (a := a') (c := c') e e2 hne hs (.int _ _) (.int _ _) (by omega) (by rw [List.size_toArray]; omega) (by rw [List.size_toArray, List.size_toArray]; omega) (h _ ?_)
  refine I.lset (its' := its.take a' ++ its2 ++ its.drop c') (t' := s.toks) hH e ?_ (Vals.append (Vals.append (r.take _) r2) (r.drop _)) ?_
  · exact splice_eq its its2 a' c'
  · rw [List.length_append, List.length_append, List.length_take, List.length_drop]
    omega
end
end L2

namespace Att
open PySem PySem.W PySem.Calls PyProof.Rows

/-! ### the script -/
theorem ints_of_wellAll {P : Params} {h : Heap} : ∀ (ns : List Int) (vs : List Value), WellAll P h vs (ns.map WData.int) → IntsAre vs ns := by
  intro ns
  induction ns with
  | nil =>
    intro vs w
    rw [List.map_nil] at w
    cases w
    exact .nil
  | cons n ns ih =>
    intro vs w
    rw [List.map_cons] at w
    cases w with
    | cons a b =>
      cases a
      exact .cons _ _ (ih _ b)

theorem script_of {l : OpenLaw} {n : Nat} (hn : l.most = some n) {P : Params} {h : Heap} {args : List WData} {vals : List Value}
    (hpre : l.row.toRowW.claim.pre args = true) (hwl : WellAll P h vals args) :
    ∃ a vs ns, vals = [Value.ref a] ∧ args = [WData.list (ns.map WData.int)] ∧ h.get? a = some { cls := .type "list", data := .seq vs.toArray } ∧ IntsAre vs ns ∧ ns.length ≤ n := by
  have hsh : WShape.hasAll [] args [.list .int] = true := (pre_splitW hpre).1
  have hc : l.pre.holds [] { args := args } = true := (pre_splitW hpre).2
  obtain ⟨d, r, rfl, h1, h2⟩ := hasAllW_cons hsh
  obtain rfl := hasAllW_nil h2
  obtain ⟨xs, rfl, h3⟩ := hasW_list h1
  obtain ⟨ns, rfl⟩ := items_int h3
  have hlen : ns.length ≤ n := by
    unfold OpenLaw.pre at hc
    have h4 : (WTm.not (.lt (.lit (.int (n : Int))) (.len (.arg 0)))).holds [] { args := [.list (ns.map .int)] } = true := by
      have h4 := (holds_andW hc).1
      rw [hn] at h4
      exact h4
    have h5 := condW_of h4 (w_not (w_lt w_lit (w_len_list (w_arg rfl))))
    rw [List.length_map] at h5
    refine Nat.le_of_not_lt fun q => ?_
    have q' : (n : Int) < ((ns.length : Nat) : Int) := by omega
    first
      | (rw [decide_eq_true q'] at h5; exact absurd h5 (by decide))
      | (simp at h5; omega)
  cases hwl with
  | cons w1 w2 =>
    cases w2
    cases w1 with
    | list ho hall => exact ⟨_, _, ns, rfl, rfl, ho, ints_of_wellAll ns _ hall, hlen⟩

theorem post_true (l : OpenLaw) (args : List WData) : l.row.toRowW.claim.post args (.bool true) args = true :=
  postW_of (r := l.row.toRowW) (X := (true == true))
    (show WShape.has [] (.bool true) .bool = true by first | rfl | decide | simp [WShape.has, WShape.arms, WShape.armsAll])
    (show (WTm.eq .res (.lit (.bool true))).value [] { args := args, res := some (.bool true), after := args } = some (.bool (true == true)) from w_eq_bool (w_res rfl) w_lit) rfl

/-! ### the attachment: holds_open's last premise (the goal 'hc' behind k_head) from a wpAny of the law's body -/
theorem attach {l : OpenLaw} {n : Nat} {q : Program} {loose : List Str} {XP : (Str → Option Value) → Heap → Prop} {YP : World → Heap → Prop} {d : DefRec} {x : Str}
    (hn : l.most = some n) (hdf : d.params.defaults = [])
    (hbind : ∀ pm cd doc v : Value, bindArgs (docDef d.name d.params d.body d.scope pm cd doc) ⟨[v], []⟩ = pure [(x, v)])
    (hx : d.scope.names.lookup x = some .local ∨ d.scope.names.lookup x = some .cell)
    (hk : d.scope.kind = .function) (hco : d.scope.isCoroutine = false) (hgen : d.scope.isGenerator = false)
    (body : ∀ (w : World) (s₀ s₁ s : Shared) (mg mb : Str → Option Value) (fa : Addr) (o : Obj) (pm cd doc : Value) (a : Addr) (vs : List Value) (ns : List Int),
      Ground q loose [] XP w s₀ mg mb s₁.heap → YP w s₁.heap →
      s₁.heap.get? fa = some o → o.data = .func (docDef d.name d.params d.body d.scope pm cd doc) → s₁.heap.CodeRec cd d.name → mg d.name = some (.ref fa) →
      s₁.heap.get? a = some { cls := .type "list", data := .seq vs.toArray } → IntsAre vs ns → ns.length ≤ n →
      s.gens = #[] → s.os = s₁.os →
      Fr s₁.heap s₁.heap.objs.size s.heap (bindL (envOfC d.name d.scope s₁.heap.objs.size fa cd).kindOf [(x, .ref a)] fun _ => none) →
      Cl s₁.heap.objs.size (cellsFrom (s₁.heap.objs.size + 1) d.scope.names []) s.heap (bindC (envOfC d.name d.scope s₁.heap.objs.size fa cd).kindOf [(x, .ref a)] fun _ => none) →
      wpAny (model l.prog w) (callerA.deeper (envOfC d.name d.scope s₁.heap.objs.size fa cd)) (execs d.body (envOfC d.name d.scope s₁.heap.objs.size fa cd))
        (fun f s' => f = .ret (.bool true) ∧ OldK s₁.heap s'.heap ∧ s'.os = s₁.os ∧ AllBare s'.gens) (fun _ _ => False) s) :
    WalkO q loose XP YP l.row.toRowW d [] (fun f vs => PySem.call f vs) := by
  intro w s₀ s₁ mg mb G Y fa o pm cd doc dV kV ho hd hcd hD hmg hg args vals as hpre hlay hrd hwl hlo
  obtain rfl : dV = .none := Dflts.none hD hdf
  obtain rfl : kV = .none := Dflts.noKw hD
  obtain ⟨a, vs, ns, rfl, rfl, hobj, hints, hlen⟩ := script_of hn hpre hwl
  refine enter_call ?_
  refine call_cells_ret (o := o) (by rw [depth_caller]; decide) ho (fd_plain hd) G.T.nolimit hcd (hbind pm cd doc (.ref a)) (fun y hy => ?_) (fun h₁ tk F X => ?_) hco hgen hk
  · obtain rfl : y = (x, Value.ref a) := List.mem_singleton.mp hy
    rcases hx with e | e
    · exact .inl e
    · exact .inr ⟨e, cellsFrom_some _ _ _ (.inl e)⟩
  · refine wpAny_mono (body w s₀ s₁ { s₁ with heap := h₁, toks := tk } mg mb fa o pm cd doc a vs ns G Y ho (fd_plain hd) hcd hmg hobj hints hlen hg rfl F X) (fun f s' hq => ?_) (fun _ _ hq => hq)
    obtain ⟨rfl, h2, h3, h4⟩ := hq
    exact ⟨.inl ⟨.bool true, .bool true, [], rfl, fun _ => rfl, .bool true, post_true l _, fun _ => ⟨List.Pairwise.nil, fun _ hm => (nomatch hm)⟩⟩, h2, h3, h4⟩

/-- the same from a codeAny of the CALL (for a layer whose function contracts speak of calls) -/
theorem attach_call {l : OpenLaw} {n : Nat} {q : Program} {loose : List Str} {XP : (Str → Option Value) → Heap → Prop} {YP : World → Heap → Prop} {d : DefRec}
    (hn : l.most = some n) (hdf : d.params.defaults = [])
    (call : ∀ (w : World) (s₀ s₁ : Shared) (mg mb : Str → Option Value) (fa : Addr) (o : Obj) (pm cd doc : Value) (a : Addr) (vs : List Value) (ns : List Int),
      Ground q loose [] XP w s₀ mg mb s₁.heap → YP w s₁.heap →
      s₁.heap.get? fa = some o → o.data = .func (docDef d.name d.params d.body d.scope pm cd doc) → s₁.heap.CodeRec cd d.name → mg d.name = some (.ref fa) →
      s₁.heap.get? a = some { cls := .type "list", data := .seq vs.toArray } → IntsAre vs ns → ns.length ≤ n → s₁.gens = #[] →
      codeAny (model l.prog w) callerA (.call (.ref fa) ⟨[.ref a], []⟩) (fun r s' => r = .ok (.ret (.bool true)) ∧ OldK s₁.heap s'.heap ∧ s'.os = s₁.os ∧ AllBare s'.gens) s₁) :
    WalkO q loose XP YP l.row.toRowW d [] (fun f vs => PySem.call f vs) := by
  intro w s₀ s₁ mg mb G Y fa o pm cd doc dV kV ho hd hcd hD hmg hg args vals as hpre hlay hrd hwl hlo
  obtain rfl : dV = .none := Dflts.none hD hdf
  obtain rfl : kV = .none := Dflts.noKw hD
  obtain ⟨a, vs, ns, rfl, rfl, hobj, hints, hlen⟩ := script_of hn hpre hwl
  refine enter_call (codeAny_mono (call w s₀ s₁ mg mb fa o pm cd doc a vs ns G Y ho (fd_plain hd) hcd hmg hobj hints hlen hg) fun r s' hq => ?_)
  obtain ⟨rfl, h2, h3, h4⟩ := hq
  exact ⟨.inl ⟨.bool true, .bool true, [], rfl, fun _ => rfl, .bool true, post_true l _, fun _ => ⟨List.Pairwise.nil, fun _ hm => (nomatch hm)⟩⟩, h2, h3, h4⟩

/-- the same where the top left finished generators (o_head chose holds_openN): nothing may have changed at all and no generator may be left -/
theorem attachN {l : OpenLaw} {n : Nat} {q : Program} {loose : List Str} {XP : (Str → Option Value) → Heap → Prop} {YP : World → Heap → Prop} {d : DefRec} {x : Str}
    (hn : l.most = some n) (hdf : d.params.defaults = [])
    (hbind : ∀ pm cd doc v : Value, bindArgs (docDef d.name d.params d.body d.scope pm cd doc) ⟨[v], []⟩ = pure [(x, v)])
    (hx : d.scope.names.lookup x = some .local ∨ d.scope.names.lookup x = some .cell)
    (hk : d.scope.kind = .function) (hco : d.scope.isCoroutine = false) (hgen : d.scope.isGenerator = false)
    (body : ∀ (w : World) (s₀ s₁ s : Shared) (mg mb : Str → Option Value) (fa : Addr) (o : Obj) (pm cd doc : Value) (a : Addr) (vs : List Value) (ns : List Int),
      Ground q loose [] XP w s₀ mg mb s₁.heap → YP w s₁.heap →
      s₁.heap.get? fa = some o → o.data = .func (docDef d.name d.params d.body d.scope pm cd doc) → s₁.heap.CodeRec cd d.name → mg d.name = some (.ref fa) →
      s₁.heap.get? a = some { cls := .type "list", data := .seq vs.toArray } → IntsAre vs ns → ns.length ≤ n →
      s.gens = #[] → s.os = s₁.os →
      Fr s₁.heap s₁.heap.objs.size s.heap (bindL (envOfC d.name d.scope s₁.heap.objs.size fa cd).kindOf [(x, .ref a)] fun _ => none) →
      Cl s₁.heap.objs.size (cellsFrom (s₁.heap.objs.size + 1) d.scope.names []) s.heap (bindC (envOfC d.name d.scope s₁.heap.objs.size fa cd).kindOf [(x, .ref a)] fun _ => none) →
      wpAny (model l.prog w) (callerA.deeper (envOfC d.name d.scope s₁.heap.objs.size fa cd)) (execs d.body (envOfC d.name d.scope s₁.heap.objs.size fa cd))
        (fun f s' => f = .ret (.bool true) ∧ (∀ b o, s₁.heap.get? b = some o → s'.heap.get? b = some o) ∧ s'.os = s₁.os ∧ s'.gens = #[]) (fun _ _ => False) s) :
    WalkN q loose XP YP l.row.toRowW d [] (fun f vs => PySem.call f vs) := by
  intro w s₀ s₁ mg mb G Y fa o pm cd doc dV kV ho hd hcd hD hmg hg args vals as hpre hlay hrd hwl hlo
  obtain rfl : dV = .none := Dflts.none hD hdf
  obtain rfl : kV = .none := Dflts.noKw hD
  obtain ⟨a, vs, ns, rfl, rfl, hobj, hints, hlen⟩ := script_of hn hpre hwl
  refine enter_callW ?_
  refine call_cells_ret (o := o) (by rw [depth_caller]; decide) ho (fd_plain hd) G.T.nolimit hcd (hbind pm cd doc (.ref a)) (fun y hy => ?_) (fun h₁ tk F X => ?_) hco hgen hk
  · obtain rfl : y = (x, Value.ref a) := List.mem_singleton.mp hy
    rcases hx with e | e
    · exact .inl e
    · exact .inr ⟨e, cellsFrom_some _ _ _ (.inl e)⟩
  · refine wpAny_mono (body w s₀ s₁ { s₁ with heap := h₁, toks := tk } mg mb fa o pm cd doc a vs ns G Y ho (fd_plain hd) hcd hmg hobj hints hlen hg rfl F X) (fun f s' hq => ?_) (fun _ _ hq => hq)
    obtain ⟨rfl, h2, h3, h4⟩ := hq
    exact ⟨.inl ⟨.bool true, .bool true, [], rfl, fun _ => rfl, .bool true, post_true l _, fun _ => ⟨List.Pairwise.nil, fun _ hm => (nomatch hm)⟩⟩, h2, h3, h4⟩

/-! ### rules over ANY heap (no ledger) from facts about the written part K: the library's own take a ledger (News) for what they write -/
section
variable {prog : Program} {w : World} {A : Around} {E : Value → Shared → Prop} {s : Shared} {K : Frag}

/-- a def of the module, or a method (qual 'C.m'), entered: the frame is the next address; cells behind it -/
theorem call_fn {R : Result → Shared → Prop} {name qual : Str} {params : Arguments} {body : List Stmt} {scope : Scope} {dV kV doc pm cdv ct oc : Value} {an od : Option Addr} {osl : Array (Option Value)} {f : Addr} {args : Args} {binds : List (Str × Value)}
    (X : K.In s.heap) (hlim : s.heap.NoLimit) (ho : K.lookup f = some ⟨oc, od, .func (fnOf name qual params body scope dV kV doc pm an cdv ct), osl⟩) (hcd : codeIn K cdv qual = true) (hroom : A.depth < recursionLimit)
    (hbind : BindsTo s (fnOf name qual params body scope dV kV doc pm an cdv ct) args binds)
    (hkind : (binds.all fun y => scope.names.lookup y.1 == some .local || scope.names.lookup y.1 == some .cell) = true)
    (h : ∀ s₁, InCallC s s.heap.objs.size (bindL (envOfC qual scope s.heap.objs.size f cdv).kindOf binds fun _ => none) (cellsFrom (s.heap.objs.size + 1) scope.names [])
        (bindC (envOfC qual scope s.heap.objs.size f cdv).kindOf binds fun _ => none) s₁ →
      wpAny (model prog w) (A.deeper (envOfC qual scope s.heap.objs.size f cdv)) (execs body (envOfC qual scope s.heap.objs.size f cdv))
        (fun fl s' => R (.ok (.ret (match fl with | .ret v => v | _ => .none))) s')
        (fun e s' => wpAny (model prog w) (A.deeper (envOfC qual scope s.heap.objs.size f cdv)) (leaving (envOfC qual scope s.heap.objs.size f cdv) e) (fun _ s'' => R (.error e) s'') (fun e' s'' => R (.error e') s'') s') s₁)
    (hco : scope.isCoroutine = false) (hgen : scope.isGenerator = false) (hk : scope.kind = .function) : codeAny (model prog w) A (.call (.ref f) args) R s := by
  refine codeAny_call_function hroom (X _ _ ho) rfl hco hgen rfl (codeRec_of X hcd) (hbind _ _ _ _ ?_)
  refine wpAny_newFunctionEnv_cells hk (kindsX hkind _) fun env he s₁ x => ?_
  subst he
  exact ⟨hlim.keeps x.toInCall.keep, codeAny_func (h s₁ x)⟩

/-- C(..): dict at size, instance at size + 1, then __init__ -/
theorem make_obj {R : Result → Shared → Prop} {C fI : Addr} {rest : List Value} {kw : List (Str × Value)}
    (X : K.In s.heap) (hm : makesIn K C = true) (hi : findIn K (.ref C) "__init__" = some (some (.ref fI))) (hf : isFn K (.ref fI) = true)
    (h : codeAny (model prog w) (A.under (.builtin "type.__call__" ⟨.ref C :: rest, kw⟩)) (.call (.ref fI) ⟨.ref (s.heap.objs.size + 1) :: rest, kw⟩) (InitBack (s.heap.objs.size + 1) R)
      { s with heap := (s.heap.push emptyDict).push (instObj C s.heap.objs.size) }) : codeAny (model prog w) A (.call (.ref C) ⟨rest, kw⟩) R s := by
  obtain ⟨hh, g, d, t, os⟩ := s
  exact make_core (makes_of X hm) (looks_findIn X hi) (fun self => bind_fn X self (beq_iff_eq.mp hf)) (.inl rfl) h

/-- x.name where the instance's dict holds the name and the class does not -/
theorem get_field {x C : Addr} {ox : Obj} {es : List DictEntry} {n : Nat} {name : Str} {expr : Bool} {v : Value} {Q : Value → Shared → Prop}
    (X : K.In s.heap) (I : PySem.W.InstAt s.heap x ox C (some (dictOf es n))) (hg : plainGet K C name = true) (hh : hasDictIn K C = true) (ha : findIn K (.ref C) name = some none)
    (hl : getL name es = some (some v)) (hv : handedIn v = true) (h : Q v { s with toks := s.toks + 1 }) : wpAny (model prog w) A (getAttr (.ref x) name expr) Q E s :=
  get_value X I (plainGet_of hg).1 (findObj_own hh ha rfl hl) hv h

/-- x.m(..): the method found in the class -/
theorem get_method {x C f : Addr} {ox : Obj} {es : List DictEntry} {n : Nat} {name : Str} {pl : Sem Bool} {Q : Value × List Value → Shared → Prop}
    (X : K.In s.heap) (I : PySem.W.InstAt s.heap x ox C (some (dictOf es n))) (hg : plainGet K C name = true) (hf : findIn K (.ref C) name = some (some (.ref f))) (ht : isFn K (.ref f) = true)
    (hl : getL name es = some none) (h : Q (.ref f, [.ref x]) s) : wpAny (model prog w) A (getMethod (.ref x) name pl) Q E s :=
  method_fn X I (plainGet_of hg).1 (plainGet_of hg).2 hf (beq_iff_eq.mp ht) (by show (lookIn name (dictOf es n)).map _ = _; rw [lookIn_dict, hl]; rfl) h

/-! the whole heap as the ledger: makes every rule that writes through a ledger a rule over any heap -/
def noObjs (h : Heap) : Heap := { h with objs := #[] }
theorem noObjs_get (h : Heap) (b : Addr) : (noObjs h).get? b = none := by
  cases e : (noObjs h).get? b with
  | none => rfl
  | some o => exact absurd (Heap.lt_size e) (Nat.not_lt_zero _)
def ledger (h : Heap) (L d : Addr) : List (Addr × Obj) := (List.range h.objs.size).filterMap fun a => if a = L ∨ a = d then none else (h.get? a).map fun o => (a, o)
theorem mem_ledger {h : Heap} {L d a : Addr} {o : Obj} : (a, o) ∈ ledger h L d ↔ a ≠ L ∧ a ≠ d ∧ h.get? a = some o := by
  unfold ledger
  rw [List.mem_filterMap]
  constructor
  · rintro ⟨b, _, e⟩
    split at e
    · cases e
    · rename_i hb
      obtain ⟨o', ho, e'⟩ := Option.map_eq_some_iff.mp e
      cases e'
      exact ⟨fun q => hb (.inl q), fun q => hb (.inr q), ho⟩
  · rintro ⟨n1, n2, ho⟩
    refine ⟨a, List.mem_range.mpr (Heap.lt_size ho), ?_⟩
    rw [if_neg (show ¬ (a = L ∨ a = d) from fun q => q.elim n1 n2), ho] <;> rfl
theorem news_ledger {h : Heap} {L d : Addr} {od : Obj} (hne : d ≠ L) (ho : h.get? d = some od) : News (noObjs h) L h ([] ++ (d, od) :: ledger h L d) := by
  rintro ⟨a, o⟩ hp
  rcases List.mem_cons.mp hp with e | hp
  · cases e
    exact ⟨ho, hne, noObjs_get _ _⟩
  · obtain ⟨n1, n2, e⟩ := mem_ledger.mp hp
    exact ⟨e, n1, noObjs_get _ _⟩
theorem fr_all {h : Heap} {L : Addr} {m : Str → Option Value} (n : h.Ns L m) : Fr (noObjs h) L h m :=
  ⟨n, fun b o e => (by rw [noObjs_get] at e; cases e), Nat.zero_le _⟩
/-- Upd of the head entry (for append_K, setItem_K ..) -/
theorem upd_ledger {h : Heap} {L d : Addr} {o o' : Obj} : Upd d o o' ((d, o) :: ledger h L d) ((d, o') :: ledger h L d) :=
  .head fun ⟨_, _⟩ hp => (mem_ledger.mp hp).2.1

/-- x.name = v over any heap: L is any namespace of the heap (the frame's, say): its map stays, its object is not told; all else but the dict stays -/
theorem set_field {x C dx L : Addr} {ox : Obj} {m : Str → Option Value} {es es' : List DictEntry} {n n' : Nat} {name : Str} {v : Value} {Q : Unit → Shared → Prop}
    (X : K.In s.heap) (I : PySem.W.InstAt s.heap x ox C (some (dictOf es n))) (hd : ox.dict = some dx) (hL : s.heap.Ns L m) (hne : dx ≠ L)
    (hs : findIn K (.ref C) "__setattr__" = some (some (.builtin "object.__setattr__"))) (hp : plainOver K C = true) (ht : takerIn K C name = some none) (hh : hasDictIn K C = true) (hl : (getL name es).isSome = true)
    (e : (putL name (PyData.keyHash w.params name) (.str name (s.toks + 1)) v es, putN name es n) = (es', n')) (hz : es'.length ≤ 1000)
    (h : ∀ h' : Heap, h'.Ns L m → h'.get? dx = some (dictOf es' n') → (∀ b o, b ≠ dx → b ≠ L → s.heap.get? b = some o → h'.get? b = some o) → Q () { s with heap := h', toks := s.toks + 2 }) :
    wpAny (model prog w) A (setAttr (.ref x) name v) Q E s := by
  obtain ⟨e1, e2⟩ := Prod.mk.inj e
  have hdx : s.heap.get? dx = some (dictOf es n) := by
    have := I.dict
    rw [hd] at this
    exact this
  refine set_plain X I hs (osa_dict (s := { s with toks := s.toks + 1 }) (h₀ := noObjs s.heap) (L := L) (m := m) (od := dictOf es n) (od' := dictOf es' n') (es := es') (n := n') (pre := []) (post := ledger s.heap L dx)
    (fr_all hL) (news_ledger hne hdx) X I hd hp ht hh hl (fun _ q => nomatch q) (fun ⟨_, _⟩ q => (mem_ledger.mp q).2.1) (by rw [putName_dict, e1, e2]) rfl hz fun h' F' N' => ?_)
  exact h h' F'.ns (N'.get (List.Mem.head _)) fun b o n1 n2 ho => N'.get (List.Mem.tail _ (mem_ledger.mpr ⟨n2, n1, ho⟩))
end
end Att

namespace L2
open PySem PySem.Spec PyProof.Rows

theorem vals_ints : ∀ {vs : List Value} {ns : List Int}, IntsAre vs ns → Vals (ns.map V.int) vs
  | _, _, .nil => .nil
  | _, _, .cons n t h => .cons ⟨t, rfl⟩ (vals_ints h)

/-- nothing is tracked but the script, known to the object (or it is an object of the module) -/
def Only (H : Hp) : Prop := ∀ b, H b = none ∨ ∃ o xs, H b = some (.frz o (.lst xs))

/-- THE HEAD: the law's promise, at the heap behind the top. F, the promise of the law's def, may use that base is part of the heap (so K.In base, base.Ns mainGlobals mg stand in Mod) -/
theorem law_call {P : Program} {w : World} {K : PySem.W.Frag} {mg mb : Str → Option Value} {CX : CXT} {k : Nat} {fa a : Addr} {fd : FuncData} {x : Str} {sp : Sp} {s₁ : Shared} {vs : List Value} {ns : List Int}
    (KX : K.In s₁.heap) (hns : s₁.heap.Ns mainGlobals mg) (hb : s₁.heap.Ns builtinsNs mb) (hbb : ∀ x : Str, x ≠ "__name__" → mb x = bootBuiltins x) (hlim : s₁.heap.NoLimit) (hg : s₁.gens = #[])
    (ha : s₁.heap.get? a = some { cls := .type "list", data := .seq vs.toArray }) (hi : IntsAre vs ns) (hl : ns.length ≤ sizeLine) (hr : Room k callerA)
    (F : ∀ base : Heap, K.In base → base.Ns mainGlobals mg → FnOk P w K mg base CX k fa fd [x] sp) (hbind : ∀ (s : Shared) (u : Value), BindsTo s fd ⟨[u], []⟩ [(x, u)])
    (hsp : ∀ H : Hp, Only H → SqL K H a (ns.map V.int) → sp [.ref a] H (fun v _ => v = .bl true) fun _ _ _ => False)
    (hCX : ∀ H e s', CX [] H s₁ (fun _ _ _ => False) e s' → False) :
    codeAny (model P w) callerA (.call (.ref fa) ⟨[.ref a], []⟩) (fun r s' => r = .ok (.ret (.bool true)) ∧ OldK s₁.heap s'.heap ∧ s'.os = s₁.os ∧ AllBare s'.gens) s₁ := by
  have rv := vals_ints hi
  have lenV := hi.length
  -- from an abstract heap in which nothing but the script may be tracked
  have core : ∀ H : Hp, Only H → SqL K H a (ns.map V.int) → HOk P w H s₁.heap → (∀ b, H b ≠ none → b = a) → (H a ≠ none → K.lookup a = none) →
      codeAny (model P w) callerA (.call (.ref fa) ⟨[.ref a], []⟩) (fun r s' => r = .ok (.ret (.bool true)) ∧ OldK s₁.heap s'.heap ∧ s'.os = s₁.os ∧ AllBare s'.gens) s₁ := by
    intro H hO hS hok hA hK
    have base_of : ∀ {b : Addr} {o : Obj}, s₁.heap.get? b = some o → H b = none → (hidT s₁.heap H).get? b = some o := fun e n => hidT_get e n
    have noA : ∀ {b : Addr} {o : Obj} {es : Array DictEntry} {ep : Nat}, s₁.heap.get? b = some o → o.data = .dict es ep → H b = none := fun {b o es ep} e d => by
      cases q : H b with
      | none => rfl
      | some u =>
        have e' : b = a := hA b (by rw [q]; simp)
        subst e'
        rw [ha] at e; cases e
        have d' : Data.seq vs.toArray _ = Data.dict es ep := d
        cases d'
    have nsK : ∀ {b : Addr} {m : Str → Option Value}, s₁.heap.Ns b m → (hidT s₁.heap H).Ns b m := fun {b m} ⟨o, es, ep, e, d, r⟩ => ⟨o, es, ep, base_of e (noA e d), d, r⟩
    have hKb : K.In (hidT s₁.heap H) := fun b o e => base_of (KX b o e) (by
      cases q : H b with
      | none => rfl
      | some u =>
        have e' : b = a := hA b (by rw [q]; simp)
        subst e'
        rw [hK (by rw [q]; simp)] at e; cases e)
    have hM : Mod K mg (hidT s₁.heap H) := ⟨hKb, nsK hns, ⟨mb, nsK hb, hbb⟩, let ⟨mc, h1, h2⟩ := hlim; ⟨mc, nsK h1, h2⟩⟩
    have e0 : Env0 P w K mg (hidT s₁.heap H) callerA [] s₁ H := ⟨rfl, hM, fun b o e => of_hidT e, Nat.le_of_eq (hidT_size _ _), trivial, fun b hb => absurd (show b ∈ ([] : List Addr) from hb) (by simp), hok, .of_eq hg⟩
    refine codeAny_mono ((F _ hKb (nsK hns)).run callerA [] s₁ H ⟨[.ref a], []⟩ [.ref a] [.ref a] _ _ hr e0 (hbind s₁ (.ref a)) (.cons rfl .nil) (hsp H hO hS)) fun r s' h => ?_
    cases r with
    | error e => exact (hCX H e s' h).elim
    | ok fl =>
      cases fl with
      | next => exact False.elim h
      | brk => exact False.elim h
      | cont => exact False.elim h
      | ret u =>
        obtain ⟨v, H', os, bare, un, hok', r', q⟩ := h
        have q' : v = .bl true := q
        subst q'
        obtain rfl : u = Value.bool true := r'
        refine ⟨rfl, OldK.of_keep fun b o e => ?_, os, bare⟩
        cases q : H b with
        | none => exact un.keep b o e q (by intro z; exact absurd (show b ∈ ([] : List Addr) from z) (by simp)) (by simp)
        | some u =>
          rcases hO b with z | ⟨ob, xs, z⟩
          · rw [q] at z; cases z
          · have z2 := un.frzs b ob _ z
            obtain ⟨e1, _⟩ := hok b _ z
            obtain ⟨e2, _⟩ := hok' b _ z2
            rw [e] at e1; cases e1
            exact e2
  cases hk : K.lookup a with
  | some o =>
    -- the script is one of the module's own objects
    have e := KX a o hk
    rw [ha] at e
    cases e
    refine core (fun _ => none) (fun _ => .inl rfl) (.inr ⟨_, vs.toArray, _, hk, rfl, rfl, rfl, by rw [List.size_toArray, lenV]; exact hl, by simpa using rv⟩) (fun b u z => by have z' : (none : Option HO) = some u := z; cases z') (fun b z => absurd rfl z) fun z => absurd rfl z
  | none =>
    refine core (fun b => if b = a then some (.frz { cls := .type "list", data := .seq vs.toArray } (.lst (ns.map V.int))) else none) (fun b => ?_) (.inl (.inr ⟨{ cls := .type "list", data := .seq vs.toArray }, if_pos rfl⟩)) (fun b u z => ?_) (fun b z => ?_) fun _ => hk
    · by_cases hb : b = a
      · exact .inr ⟨_, _, if_pos hb⟩
      · exact .inl (if_neg hb)
    · by_cases hb : b = a
      · have z' := (if_pos hb).symm.trans z
        cases z'
        subst hb
        exact ⟨ha, by rw [List.length_map]; exact hl, vs, _, rv, ha⟩
      · have z' := (if_neg hb).symm.trans z
        cases z'
    · by_cases hb : b = a
      · exact hb
      · exact absurd (if_neg hb) z
end L2

namespace L2
open PySem PySem.Spec PyProof.Rows

abbrev KOf {K : PySem.W.Frag} {h : Heap} (_ : K.In h) : PySem.W.Frag := K

/-- the goal that k_head leaves (case hc), from the law's promise. F gives the function object fd (K's own) once, then the promise over every base -/
theorem walk_of {l : PySem.W.OpenLaw} {n k : Nat} {q : Program} {loose : List Str} {XP : (Str → Option Value) → Heap → Prop} {YP : World → Heap → Prop} {d : DefRec} {K : Params → PySem.W.Frag} {CX : World → CXT} {sp : World → Sp} {x : Str}
    (hn : l.most = some n) (hn2 : n ≤ sizeLine) (hdf : d.params.defaults = []) (hr : Room k callerA)
    (hY : ∀ (w : World) (h : Heap), YP w h → (K w.params).In h)
    (F : ∀ (w : World) (mg : Str → Option Value) (fa : Addr) (h : Heap), (K w.params).In h → h.Ns mainGlobals mg → mg d.name = some (.ref fa) →
      ∃ fd : FuncData, (∀ (s : Shared) (u : Value), BindsTo s fd ⟨[u], []⟩ [(x, u)]) ∧
        ∀ base : Heap, (K w.params).In base → base.Ns mainGlobals mg → FnOk l.prog w (K w.params) mg base (CX w) k fa fd [x] (sp w))
    (hsp : ∀ (w : World) (H : Hp) (a : Addr) (ns : List Int), ns.length ≤ n → Only H → SqL (K w.params) H a (ns.map V.int) → sp w [.ref a] H (fun v _ => v = .bl true) fun _ _ _ => False)
    (hCX : ∀ (w : World) (H : Hp) (s : Shared) (e : Value) (s' : Shared), CX w [] H s (fun _ _ _ => False) e s' → False) :
    PySem.W.WalkO q loose XP YP l.row.toRowW d [] (fun f vs => PySem.call f vs) := by
  refine Att.attach_call hn hdf fun w s₀ s₁ mg mb fa o pm cd doc a vs ns G Y ho hd hcd hmg hobj hints hlen hg => ?_
  have KX := hY w _ Y
  obtain ⟨fd, hb, hF⟩ := F w mg fa _ KX G.T.g hmg
  exact law_call KX G.T.g G.T.b G.T.builtins G.T.nolimit hg hobj hints (Nat.le_trans hlen hn2) hr hF hb (fun H hO hS => hsp w H a ns hlen hO hS) fun H e s' => hCX w H s₁ e s'
/-- the same where the promise hangs on the written part alone: (sp := My.sp_law), no hole under a binder -/
theorem walk_ofK {l : PySem.W.OpenLaw} {n k : Nat} {q : Program} {loose : List Str} {XP : (Str → Option Value) → Heap → Prop} {YP : World → Heap → Prop} {d : DefRec} {K : Params → PySem.W.Frag} {CX : CXT} {sp : PySem.W.Frag → Sp} {x : Str}
    (hn : l.most = some n) (hn2 : n ≤ sizeLine) (hdf : d.params.defaults = []) (hr : Room k callerA)
    (hY : ∀ (w : World) (h : Heap), YP w h → (K w.params).In h)
    (F : ∀ (w : World) (mg : Str → Option Value) (fa : Addr) (h : Heap), (K w.params).In h → h.Ns mainGlobals mg → mg d.name = some (.ref fa) →
      ∃ fd : FuncData, (∀ (s : Shared) (u : Value), BindsTo s fd ⟨[u], []⟩ [(x, u)]) ∧
        ∀ base : Heap, (K w.params).In base → base.Ns mainGlobals mg → FnOk l.prog w (K w.params) mg base CX k fa fd [x] (sp (K w.params)))
    (hsp : ∀ (K : PySem.W.Frag) (H : Hp) (a : Addr) (ns : List Int), ns.length ≤ n → Only H → SqL K H a (ns.map V.int) → sp K [.ref a] H (fun v _ => v = .bl true) fun _ _ _ => False)
    (hCX : ∀ (H : Hp) (s : Shared) (e : Value) (s' : Shared), CX [] H s (fun _ _ _ => False) e s' → False) :
    PySem.W.WalkO q loose XP YP l.row.toRowW d [] (fun f vs => PySem.call f vs) :=
  walk_of (K := K) (CX := fun _ => CX) (sp := fun w => sp (K w.params)) hn hn2 hdf hr hY F (fun w H a ns h1 h2 h3 => hsp (K w.params) H a ns h1 h2 h3) fun _ H s e s' => hCX H s e s'
end L2

/- THE LAST THEOREM (shape; LID, My.* are yours):
   My.Adr: a structure of the addresses that your layer names (classes, functions); My.Txt K t: a structure (Prop) of the equations over K;
   My.txt_mk : {K} {implicit addresses ..} (e1 : nsIn K mainGlobals "law" = some (some (.ref f))) (e2 : K.lookup f = some ⟨oc, od, .func (fnOf "law" "law" params body scope dV kV doc pm an cdv ct), sl⟩) (e3 : codeIn K cdv "law" = true) .. : ∃ t, My.Txt K t

set_option maxRecDepth 100000 in
set_option maxHeartbeats 0 in
theorem PySem.Challenge.cw_LID_holds : PySem.Challenge.rw_LID.Holds := by
  w_on; o_law; k_head; (case hw => w_witness2)
  k_fill
  refine L2.walk_of (l := PySem.Challenge.rw_LID) (n := 63) (k := 40) (x := "script") (CX := fun w => ..) (sp := fun _ => My.sp_law) rfl (by decide) rfl ⟨rfl, by decide, by decide⟩ (fun w h Y => PySem.W.kIn_of Y) ?F ?S ?C
  case F =>
    intro w mg fa h KX G hmg
    have T : ∃ t, My.Txt (L2.KOf KX) t := by
      dsimp only [L2.KOf]                          -- K must stand as «<heap const> w.params» for k_is
      refine' My.txt_mk ?e1 ?e2 ?e3 ..
      (case e1 => PySem.W.k_is)                    -- in the order: a name -> its address -> its object -> its parts
      (case e2 => PySem.W.k_is)
      ..
    obtain ⟨t, T⟩ := T
    have e0 := hmg.symm.trans (PySem.W.mg_of KX G T.law)
    cases e0                                       -- fa is the law's own address
    exact ⟨_, fun s u => .of_eq rfl, fun base kb nb => My.law_fn T kb nb⟩     -- if «.of_eq rfl» comes too early: refine' ⟨_, ?b, fun base kb nb => My.law_fn T kb nb⟩; exact fun s u => .of_eq rfl
  case S => exact fun w H a ns hl hO hS => ..
  case C => exact ..
(the tactic k_is has no namespace: write k_is) -/

/-! SHORT WORDS over the layer: a def of the text, its body, what a loop and a test want. -/
namespace L2
open PySem PySem.Spec PyProof.Rows

/-! ### the text by places -/
/-- the j-th statement of a class's body -/
def inClass (s : Stmt) (j : Nat) : Stmt := match s with
  | .ClassDef _ _ _ body _ _ _ _ _ _ _ => body.getD j (.Pass ⟨0, 0, 0, 0⟩)
  | _ => .Pass ⟨0, 0, 0, 0⟩
def defArgs (s : Stmt) : Arguments := match s with
  | .FunctionDef _ a _ _ _ _ _ _ _ _ => a
  | _ => { posonlyargs := [], args := [], vararg := none, kwonlyargs := [], kw_defaults := [], kwarg := none, defaults := [] }
def defBody (s : Stmt) : List Stmt := match s with
  | .FunctionDef _ _ b _ _ _ _ _ _ _ => b
  | _ => []
def defScope (s : Stmt) : Scope := match s with
  | .FunctionDef _ _ _ _ _ _ sc _ _ _ => sc
  | _ => { kind := .function, names := [], isGenerator := false, isCoroutine := false }

/-! ### no exception leaves a def -/
abbrev CX0 : CXT := fun _ _ _ _ _ _ => False
abbrev E0 : XK := fun _ _ _ => False
theorem pass0 {X : Cx} : Passes CX0 X E0 := fun _ _ _ _ _ _ _ h => h.elim

/-! ### a def (or method) of the text as it stands behind the top -/
structure Fun (K : PySem.W.Frag) (x qual : Str) (st : Stmt) (f : Addr) (fd : FuncData) : Prop where
  ex : ∃ (oc : Value) (od : Option Addr) (kV doc pm : Value) (an : Option Addr) (cdv ct : Value) (osl : Array (Option Value)),
    fd = PySem.W.fnOf x qual (defArgs st) (defBody st) (defScope st) .none kV doc pm an cdv ct ∧ K.lookup f = some ⟨oc, od, .func fd, osl⟩ ∧ PySem.W.codeIn K cdv qual = true
  kp : PySem.W.keepIn K (.ref f) = true
section
variable {P : Program} {w : World} {K : PySem.W.Frag} {mg : Str → Option Value} {base : Heap}
/-- THE RULE for a def: its body as a term of rules, and the reading of that term -/
theorem Fun.ok {x qual : Str} {st : Stmt} {f : Addr} {fd : FuncData} {N ps : List Str} {k : Nat} {sp : Sp} (F : Fun K x qual st f fd) (S : FnScope N ps (defScope st)) (len : ∀ vs H Q E, sp vs H Q E → vs.length = ps.length)
    (hbody : ∀ (cdv : Value) (A : Around) (outer : List Env) (s : Shared) (H : Hp) (vs : List V) (Q : VK) (E : XK), Room k (A.deeper (envOfC qual (defScope st) s.heap.objs.size f cdv)) → sp vs H Q E →
      ∃ t, PSs (cxOf CX0 P w K mg base N qual (defScope st) f cdv A outer s H E).nox (defBody st) t ∧ t { nx := fun _ H' => Q .non H', rt := Q } (start N vs) H) : FnOk P w K mg base CX0 (k + 1) f fd ps sp := by
  obtain ⟨oc, od, kV, doc, pm, an, cdv, ct, osl, rfl, lk, hcd⟩ := F.ex
  refine fn_of lk hcd S len fun A outer s H vs Q E hr hsp => ?_
  obtain ⟨t, h, q⟩ := hbody cdv A outer s H vs Q E hr hsp
  exact ⟨t, h.nox, q⟩
/-- how its arguments bind (no defaults): h is «fun _ _ _ _ _ _ us hl => match us, hl with | [_, _], _ => rfl», one _ a parameter -/
theorem Fun.binds {x qual : Str} {st : Stmt} {f : Addr} {fd : FuncData} {ps : List Str} (F : Fun K x qual st f fd)
    (h : ∀ (kV doc pm : Value) (an : Option Addr) (cdv ct : Value) (us : List Value), us.length = ps.length → bindArgs (PySem.W.fnOf x qual (defArgs st) (defBody st) (defScope st) .none kV doc pm an cdv ct) ⟨us, []⟩ = pure (ps.zip us)) : Binds K fd ps [] := by
  obtain ⟨oc, od, kV, doc, pm, an, cdv, ct, osl, rfl, lk, hcd⟩ := F.ex
  exact .all (h kV doc pm an cdv ct)
theorem fun_mk {x qual : Str} {st : Stmt} {f : Addr} {oc : Value} {od an : Option Addr} {osl : Array (Option Value)} {kV doc pm cdv ct : Value} (l : K.lookup f = some ⟨oc, od, .func (PySem.W.fnOf x qual (defArgs st) (defBody st) (defScope st) .none kV doc pm an cdv ct), osl⟩)
    (c : PySem.W.codeIn K cdv qual = true) (k : PySem.W.keepIn K (.ref f) = true) : Fun K x qual st f (PySem.W.fnOf x qual (defArgs st) (defBody st) (defScope st) .none kV doc pm an cdv ct) := ⟨⟨oc, od, kV, doc, pm, an, cdv, ct, osl, rfl, l, c⟩, k⟩
end
theorem hu_of {A : Around} {k : Nat} (hr : Room k A) : A.units + 1 < cLine := Nat.lt_of_le_of_lt (Nat.add_le_add_left (by decide : 1 ≤ 64) _) hr.units
theorem small1000 {n : Nat} (h : n ≤ 1000) : n < sizeLine := Nat.lt_of_le_of_lt h (by decide)

/-! ### expressions in short: the name that stands in the i-th slot -/
section
variable {X : Cx}
theorem pv (i : Nat) {x : Str} {pos : Pos} (hN : X.N[i]? = some x := by rfl) (hv : Vis X.env.scope x := by first | exact Or.inl rfl | exact Or.inr (Or.inl rfl) | exact Or.inr (Or.inr rfl)) (hd : (x == ("__debug__" : Str)) = false := by decide)
    (hcd : (x == ("__classdict__" : Str)) = false := by decide) : PE X (.Name x pos) (tVar i) := pe_var hN hv hd hcd
end

/-! ### tests -/
theorem iteF {A B : Prop} (h : B) : if false = true then A else B := by
  rw [if_neg Bool.false_ne_true]
  exact h
theorem iteT {A B : Prop} (h : A) : if true = true then A else B := by
  rw [if_pos rfl]
  exact h
theorem ite2 {c A B : Prop} [Decidable c] (h1 : c → A) (h2 : ¬ c → B) : if c then A else B := by
  by_cases h : c
  · rw [if_pos h]
    exact h1 h
  · rw [if_neg h]
    exact h2 h
theorem iteNS {c A B : Prop} [Decidable c] (hc : c) (h : B) : if (!decide c) = true then A else B := by
  rw [decide_eq_true hc]
  exact iteF h

/-! ### heaps -/
/-- all that was tracked is as it was -/
def Same (H H' : Hp) : Prop := ∀ b o, H b = some o → H' b = some o
theorem Same.refl (H : Hp) : Same H H := fun _ _ h => h
theorem Same.trans {H H1 H2 : Hp} (a : Same H H1) (b : Same H1 H2) : Same H H2 := fun c o h => b c o (a c o h)
theorem Same.free {H H' : Hp} (e : Same H H') {l : Addr} (h : H' l = Option.none) : H l = Option.none := by
  cases q : H l with
  | none => rfl
  | some o =>
    rw [e l o q] at h
    cases h
theorem Same.seq {K : PySem.W.Frag} {H H' : Hp} {a : Addr} {xs : List V} (e : Same H H') (h : SqL K H a xs) : SqL K H' a xs := by
  rcases h with (h | ⟨o, h⟩) | h
  · exact .inl (.inl (e _ _ h))
  · exact .inl (.inr ⟨o, e _ _ h⟩)
  · exact .inr h

end L2
namespace L2
open PySem PySem.Spec PyProof.Rows

/-! ### lists of pairs as tables -/
section
variable {κ : Type} [DecidableEq κ]
def valV (kvs : List (κ × V)) (k : κ) : Option V := (kvs.find? fun kv => decide (kv.1 = k)).map (·.2)
/-- in its place, or at the end -/
def putK (kvs : List (κ × V)) (k : κ) (v : V) : List (κ × V) :=
  if (kvs.any fun kv => decide (kv.1 = k)) = true then kvs.map (fun kv => if kv.1 = k then (kv.1, v) else kv) else kvs ++ [(k, v)]
def dropK (kvs : List (κ × V)) (k : κ) : List (κ × V) := kvs.filter fun kv => decide (kv.1 ≠ k)

theorem valV_nil {k : κ} : valV ([] : List (κ × V)) k = none := rfl
theorem valV_pos {p : κ × V} {r : List (κ × V)} {k : κ} (e : p.1 = k) : valV (p :: r) k = some p.2 := by simp [valV, List.find?_cons, e]
theorem valV_neg {p : κ × V} {r : List (κ × V)} {k : κ} (e : ¬ p.1 = k) : valV (p :: r) k = valV r k := by simp [valV, List.find?_cons, e]
theorem valV_any (k : κ) : ∀ kvs : List (κ × V), (kvs.any fun kv => decide (kv.1 = k)) = (valV kvs k).isSome
  | [] => rfl
  | p :: r => by
    rw [List.any_cons]
    by_cases e : p.1 = k
    · simp only [valV_pos e, decide_eq_true e, Bool.true_or, Option.isSome_some]
    · rw [valV_neg e, decide_eq_false e, Bool.false_or]; exact valV_any k r
theorem valV_map (k j : κ) (y : V) : ∀ kvs : List (κ × V), valV (kvs.map fun kv => if kv.1 = k then (kv.1, y) else kv) j = (valV kvs j).map fun x => if j = k then y else x
  | [] => rfl
  | p :: r => by
    have ih := valV_map k j y r
    rw [List.map_cons]
    by_cases h : p.1 = k
    · rw [if_pos h]
      by_cases e : p.1 = j
      · rw [valV_pos (p := (p.1, y)) e, valV_pos e, Option.map_some, if_pos (e.symm.trans h)]
      · rw [valV_neg (p := (p.1, y)) e, valV_neg e, ih]
    · rw [if_neg h]
      by_cases e : p.1 = j
      · rw [valV_pos (p := p) e, valV_pos e, Option.map_some, if_neg (fun z => h (e.trans z))]
      · rw [valV_neg (p := p) e, valV_neg e, ih]
theorem valV_snoc (k j : κ) (y : V) : ∀ kvs : List (κ × V), valV kvs k = none → valV (kvs ++ [(k, y)]) j = if j = k then some y else valV kvs j
  | [], _ => by
    by_cases e : k = j
    · rw [if_pos e.symm]; exact valV_pos (p := (k, y)) e
    · rw [if_neg (fun z => e z.symm)]; exact valV_neg (p := (k, y)) e
  | p :: r, hn => by
    rw [List.cons_append]
    have hk : ¬ p.1 = k := fun z => by rw [valV_pos z] at hn; cases hn
    rw [valV_neg hk] at hn
    have ih := valV_snoc k j y r hn
    by_cases e : p.1 = j
    · rw [valV_pos e, valV_pos e, if_neg (fun z => hk (e.trans z))]
    · rw [valV_neg e, valV_neg e, ih]
theorem valV_put (kvs : List (κ × V)) (k j : κ) (y : V) : valV (putK kvs k y) j = if j = k then some y else valV kvs j := by
  unfold putK
  by_cases a : (kvs.any fun kv => decide (kv.1 = k)) = true
  · rw [if_pos a, valV_map]
    rw [valV_any] at a
    by_cases e : j = k
    · obtain ⟨x, hx⟩ := Option.isSome_iff_exists.mp a
      rw [if_pos e, e, hx, Option.map_some, if_pos rfl]
    · rw [if_neg e]
      cases valV kvs j with
      | none => rfl
      | some x => rw [Option.map_some, if_neg e]
  · rw [if_neg a]
    refine valV_snoc k j y kvs ?_
    rw [valV_any] at a
    cases q : valV kvs k with
    | none => rfl
    | some x => rw [q] at a; exact (a rfl).elim
theorem length_putK (kvs : List (κ × V)) (k : κ) (v : V) : (putK kvs k v).length ≤ kvs.length + 1 := by
  unfold putK
  split
  · rw [List.length_map]; omega
  · rw [List.length_append, List.length_cons, List.length_nil]; omega
theorem putK_new {kvs : List (κ × V)} {k : κ} (v : V) (h : valV kvs k = none) : putK kvs k v = kvs ++ [(k, v)] := by
  unfold putK
  rw [valV_any, h]
  exact if_neg (by decide)

theorem RelO.isSome_eq {o : Option V} {u : Option Value} (r : RelO o u) : o.isSome = u.isSome := by
  cases o with
  | none => cases u with
    | none => rfl
    | some _ => exact (show False from r).elim
  | some _ => cases u with
    | none => exact (show False from r).elim
    | some _ => rfl
theorem RelO.getD {o : Option V} {u : Option Value} {d : V} {d' : Value} (r : RelO o u) (rd : RelV d d') : RelV (o.getD d) (u.getD d') := by
  cases o with
  | none => cases u with
    | none => exact rd
    | some _ => exact (show False from r).elim
  | some _ => cases u with
    | none => exact (show False from r).elim
    | some _ => exact r

/-- raw tables of the same keys -/
theorem KV.val {kvs : List (κ × V)} {vs : List (κ × Value)} (r : KV kvs vs) (k : κ) : RelO (valV kvs k) (valueAt vs k) := by
  unfold KV at r
  induction r with
  | nil => exact True.intro
  | @cons p q ps qs h t ih =>
    obtain ⟨h1, h2⟩ := h
    by_cases e : p.1 = k
    · have e' : q.1 = k := h1.symm.trans e
      have b : valueAt (q :: qs) k = some q.2 := by simp [valueAt, List.find?_cons, e']
      rw [valV_pos e, b]; exact h2
    · have e' : ¬ q.1 = k := fun z => e (h1.trans z)
      have b : valueAt (q :: qs) k = valueAt qs k := by simp [valueAt, List.find?_cons, e']
      rw [valV_neg e, b]; exact ih
theorem KV.any {kvs : List (κ × V)} {vs : List (κ × Value)} (r : KV kvs vs) (k : κ) : (kvs.any fun kv => decide (kv.1 = k)) = vs.any fun kv => decide (kv.1 = k) := by
  unfold KV at r
  induction r with
  | nil => rfl
  | cons h t ih => rw [List.any_cons, List.any_cons, ih, h.1]
theorem KV.repl {kvs : List (κ × V)} {vs : List (κ × Value)} (r : KV kvs vs) (k : κ) {y : V} {u : Value} (ry : RelV y u) :
    KV (kvs.map fun kv => if kv.1 = k then (kv.1, y) else kv) (vs.map fun kv => if kv.1 = k then (kv.1, u) else kv) := by
  unfold KV at r ⊢
  induction r with
  | nil => exact .nil
  | @cons p q ps qs h t ih =>
    rw [List.map_cons, List.map_cons]
    refine .cons ?_ ih
    obtain ⟨h1, h2⟩ := h
    by_cases e : p.1 = k
    · rw [if_pos e, if_pos (h1.symm.trans e)]; exact ⟨h1, ry⟩
    · rw [if_neg e, if_neg (fun z => e (h1.trans z))]; exact ⟨h1, h2⟩
theorem KV.put {kvs : List (κ × V)} {vs : List (κ × Value)} (r : KV kvs vs) (k : κ) {y : V} {u : Value} (ry : RelV y u) : KV (putK kvs k y) (stored vs k u) := by
  unfold putK stored
  rw [r.any k]
  by_cases e : (vs.any fun kv => decide (kv.1 = k)) = true
  · rw [if_pos e, if_pos e]; exact r.repl k ry
  · rw [if_neg e, if_neg e]; exact Paired.snoc r ⟨rfl, ry⟩
theorem KV.drop {kvs : List (κ × V)} {vs : List (κ × Value)} (r : KV kvs vs) (k : κ) : KV (dropK kvs k) (without vs k) := by
  unfold KV at r ⊢
  unfold dropK without
  induction r with
  | nil => exact .nil
  | @cons p q ps qs h t ih =>
    obtain ⟨h1, h2⟩ := h
    rw [List.filter_cons, List.filter_cons]
    by_cases e : p.1 = k
    · have a : ¬ decide (p.1 ≠ k) = true := by simp [e]
      have b : ¬ decide (q.1 ≠ k) = true := by simp [h1.symm.trans e]
      rw [if_neg a, if_neg b]; exact ih
    · have e' : ¬ q.1 = k := fun z => e (h1.trans z)
      have a : decide (p.1 ≠ k) = true := by simp [e]
      have b : decide (q.1 ≠ k) = true := by simp [e']
      rw [if_pos a, if_pos b]; exact .cons ⟨h1, h2⟩ ih
theorem KV.keys {kvs : List (κ × V)} {vs : List (κ × Value)} (r : KV kvs vs) : kvs.map (·.1) = vs.map (·.1) := by
  unfold KV at r
  induction r with
  | nil => rfl
  | cons h t ih => rw [List.map_cons, List.map_cons, ih, h.1]
theorem KV.length {kvs : List (κ × V)} {vs : List (κ × Value)} (r : KV kvs vs) : kvs.length = vs.length := Paired.length r
theorem dropK_le (kvs : List (κ × V)) (k : κ) : (dropK kvs k).length ≤ kvs.length := List.length_filter_le _ _
end


/-! ### a tracked dict, its keys ints and texts or tuples of these -/
theorem kV_is {P : Program} {w : World} {k : Key} {u : Value} (r : RelV (kV k) u) : (mixKind P w).is k u = true := by
  cases k with
  | inl i => obtain ⟨t, e⟩ := (show ∃ t, u = Value.int i t from r); subst e; exact mixKind_int P w i t
  | inr x => obtain ⟨t, e⟩ := (show ∃ t, u = Value.str x t from r); subst e; exact mixKind_str P w x t
theorem kV_inj {a b : Key} (e : kV a = kV b) : a = b := by
  cases a with
  | inl i => cases b with
    | inl j => have e' : V.int i = V.int j := e; injection e' with e'; rw [e']
    | inr y => exact nomatch (show V.int i = V.str y from e)
  | inr x => cases b with
    | inl j => exact nomatch (show V.str x = V.int j from e)
    | inr y => have e' : V.str x = V.str y := e; injection e' with e'; rw [e']
theorem kVs_inj : ∀ {a b : List Key}, a.map kV = b.map kV → a = b
  | [], [], _ => rfl
  | [], _ :: _, e => by simp at e
  | _ :: _, [], e => by simp at e
  | x :: xs, y :: ys, e => by
    rw [List.map_cons, List.map_cons] at e
    injection e with e1 e2
    rw [kV_inj e1, kVs_inj e2]
theorem items_are {P : Program} {w : World} : ∀ {ks : List Key} {us : List Value}, Vals (ks.map kV) us → ItemsAre (mixKind P w) ks us
  | [], _, r => by rw [List.map_nil] at r; cases r; exact .nil
  | k :: ks, _, r => by
    rw [List.map_cons] at r
    cases r with
    | cons h t => exact .cons (kV_is h) (items_are t)

/-- raw entries of a dict with tuple keys -/
abbrev KT (H : Hp) : List (List Key × V) → List (List Key × Addr × Value) → Prop := Paired fun p q => p.1 = q.1 ∧ H q.2.1 = some (.tup (p.1.map kV)) ∧ RelV p.2 q.2.2
theorem KT.val {H : Hp} {kvs : List (List Key × V)} {xs : List (List Key × Addr × Value)} (r : KT H kvs xs) (k : List Key) : RelO (valV kvs k) ((atKey xs k).map (·.2)) := by
  induction r with
  | nil => exact True.intro
  | @cons p q ps qs h t ih =>
    obtain ⟨h1, _, h2⟩ := h
    by_cases e : p.1 = k
    · have e' : q.1 = k := h1.symm.trans e
      have b : atKey (q :: qs) k = some q.2 := by simp [atKey, List.find?_cons, e']
      rw [valV_pos e, b]; exact h2
    · have e' : ¬ q.1 = k := fun z => e (h1.trans z)
      have b : atKey (q :: qs) k = atKey qs k := by simp [atKey, List.find?_cons, e']
      rw [valV_neg e, b]; exact ih
theorem KT.repl {H : Hp} {kvs : List (List Key × V)} {xs : List (List Key × Addr × Value)} (r : KT H kvs xs) (k : List Key) {y : V} {u : Value} (ry : RelV y u) :
    KT H (kvs.map fun kv => if kv.1 = k then (kv.1, y) else kv) (xs.map (putAt k u)) := by
  induction r with
  | nil => exact .nil
  | @cons p q ps qs h t ih =>
    rw [List.map_cons, List.map_cons]
    refine .cons ?_ ih
    obtain ⟨h1, h2, h3⟩ := h
    unfold putAt
    by_cases e : p.1 = k
    · rw [if_pos e, if_pos (h1.symm.trans e)]; exact ⟨h1, h2, ry⟩
    · rw [if_neg e, if_neg (fun z => e (h1.trans z))]; exact ⟨h1, h2, h3⟩
theorem KT.put {H : Hp} {kvs : List (List Key × V)} {xs : List (List Key × Addr × Value)} (r : KT H kvs xs) (k : List Key) {b : Addr} {y : V} {u : Value} (hb : H b = some (.tup (k.map kV))) (ry : RelV y u) :
    KT H (putK kvs k y) (storedH xs k b u) := by
  have e : (kvs.any fun kv => decide (kv.1 = k)) = (atKey xs k).isSome := by
    rw [valV_any, (r.val k).isSome_eq, Option.isSome_map]
  unfold putK storedH
  rw [e]
  by_cases q : (atKey xs k).isSome = true
  · rw [if_pos q, if_pos q]; exact r.repl k ry
  · rw [if_neg q, if_neg q]; exact Paired.snoc r ⟨rfl, hb, ry⟩
theorem KT.keeps {H H' : Hp} {kvs : List (List Key × V)} {xs : List (List Key × Addr × Value)} (r : KT H kvs xs) (ht : ∀ b ys, H b = some (.tup ys) → H' b = some (.tup ys)) : KT H' kvs xs :=
  Paired.mapP r fun _ _ z => ⟨z.1, ht _ _ z.2.1, z.2.2⟩

section
variable {P : Program} {w : World} {H : Hp} {h : Heap} {a : Addr}
theorem rd_of {u : HO} (ok : HOk P w H h) (e : Rd H a u) : ObjOk P w H h a u := e.ok ok
theorem dk_rd {kvs : List (Key × V)} (ok : HOk P w H h) (e : Rd H a (.dK kvs)) : kvs.length ≤ sizeLine ∧ (a == sysModules) = false ∧ ∃ vs, KV kvs vs ∧ h.DictOf (mixKind P w) a vs :=
  show ObjOk P w H h a (.dK kvs) from rd_of ok e
theorem dk_of {kvs : List (Key × V)} (ok : HOk P w H h) (e : H a = some (.dK kvs)) : kvs.length ≤ sizeLine ∧ (a == sysModules) = false ∧ ∃ vs, KV kvs vs ∧ h.DictOf (mixKind P w) a vs := dk_rd ok (.inl e)
/-- a tracked tuple of ints and texts is a key -/
theorem key_of {ks : List Key} (ok : HOk P w H h) (e : H a = some (.tup (ks.map kV))) : (tupleKind (mixKind P w)).is h ks a := by
  obtain ⟨_, its, r, o, h1, h2, n, h3⟩ := (show ObjOk P w H h a (.tup (ks.map kV)) from ok a _ e)
  exact ⟨o, its.toArray, n, h1, h2, h3, by simpa using items_are r⟩
theorem dt_rd {kvs : List (List Key × V)} (ok : HOk P w H h) (e : Rd H a (.dT kvs)) : kvs.length ≤ sizeLine ∧ (a == sysModules) = false ∧
    ∃ xs, KT H kvs xs ∧ h.DictOfH (tupleKind (mixKind P w)) a xs := by
  obtain ⟨z, y, xs, r, o, es, ep, h1, h2, h3, h4, h5⟩ := (show ObjOk P w H h a (.dT kvs) from rd_of ok e)
  refine ⟨z, y, xs, r, o, es, ep, h1, h2, h3, h4, fun x hx => ?_, h5⟩
  have all : ∀ {l : List (List Key × V)} {m : List (List Key × Addr × Value)}, KT H l m → ∀ x ∈ m, (tupleKind (mixKind P w)).is h x.1 x.2.1 := by
    intro l m q
    induction q with
    | nil => intro x hx; exact nomatch hx
    | @cons p q ps qs hq t ih =>
      intro x hx
      rcases List.mem_cons.mp hx with e | hx
      · subst e
        exact key_of ok (by rw [← hq.1]; exact hq.2.1)
      · exact ih x hx
  exact all r x hx
theorem dt_of {kvs : List (List Key × V)} (ok : HOk P w H h) (e : H a = some (.dT kvs)) : kvs.length ≤ sizeLine ∧ (a == sysModules) = false ∧
    ∃ xs, KT H kvs xs ∧ h.DictOfH (tupleKind (mixKind P w)) a xs := dt_rd ok (.inl e)
end

/-- what the dict at a holds at the key y -/
def DGet (H : Hp) (a : Addr) (y : V) (r : Option V) : Prop :=
  (∃ kvs k, Rd H a (.dK kvs) ∧ y = kV k ∧ r = valV kvs k) ∨ ∃ kvs k b, Rd H a (.dT kvs) ∧ y = .ref b ∧ H b = some (.tup (k.map kV)) ∧ r = valV kvs k
/-- the heap behind a[y] = v -/
def DPut (H : Hp) (a : Addr) (y v : V) (H' : Hp) : Prop :=
  (∃ kvs k, H a = some (.dK kvs) ∧ y = kV k ∧ kvs.length < sizeLine ∧ H' = upd H a (.dK (putK kvs k v))) ∨
  ∃ kvs k b, H a = some (.dT kvs) ∧ y = .ref b ∧ H b = some (.tup (k.map kV)) ∧ kvs.length < sizeLine ∧ H' = upd H a (.dT (putK kvs k v))
theorem DGet.k {H : Hp} {a : Addr} {kvs : List (Key × V)} {k : Key} (e : H a = some (.dK kvs)) : DGet H a (kV k) (valV kvs k) := .inl ⟨kvs, k, .inl e, rfl, rfl⟩
theorem DGet.t {H : Hp} {a b : Addr} {kvs : List (List Key × V)} {k : List Key} (e : H a = some (.dT kvs)) (eb : H b = some (.tup (k.map kV))) : DGet H a (.ref b) (valV kvs k) := .inr ⟨kvs, k, b, .inl e, rfl, eb, rfl⟩
theorem DPut.k {H : Hp} {a : Addr} {kvs : List (Key × V)} {k : Key} {v : V} (e : H a = some (.dK kvs)) (hl : kvs.length < sizeLine) : DPut H a (kV k) v (upd H a (.dK (putK kvs k v))) := .inl ⟨kvs, k, e, rfl, hl, rfl⟩
theorem DPut.t {H : Hp} {a b : Addr} {kvs : List (List Key × V)} {k : List Key} {v : V} (e : H a = some (.dT kvs)) (eb : H b = some (.tup (k.map kV))) (hl : kvs.length < sizeLine) :
    DPut H a (.ref b) v (upd H a (.dT (putK kvs k v))) := .inr ⟨kvs, k, b, e, rfl, eb, hl, rfl⟩


section
variable {X : Cx} {pins : List (Addr × Obj)} {σ : St} {H : Hp} {s : Shared} {a : Addr} {y v : V} {u r : Value} {o : Option V} {A : Around} {E : Value → Shared → Prop}

theorem Inv.big (I : Inv X pins σ H s) : sysModules < s.heap.objs.size := by
  have h : mainGlobals < s.heap.objs.size := (I.mod.glob.keeps I.bk).lt
  exact Nat.lt_trans (by decide) h

/-- d[y], there -/
theorem d_getItem {Q : Value → Shared → Prop} (hu : A.units + 1 < cLine) (I : Inv X pins σ H s) (g : DGet H a y (some v)) (ry : RelV y u) (h : ∀ w' s', Inv X pins σ H s' → RelV v w' → Q w' s') :
    wpAny (model X.prog X.w) A (getItem (.ref a) u) Q E s := by
  rcases g with ⟨kvs, k, e, ey, l⟩ | ⟨kvs, k, b, e, ey, eb, l⟩
  · subst ey
    obtain ⟨z, hd, vs, rel, dd⟩ := dk_rd I.hok e
    obtain ⟨w', hw, rw'⟩ := RelO.some_of (v := v) (o := valueAt vs k) (by rw [l]; exact rel.val k)
    exact wpAny_getItem_of (kV_is ry) dd.mapOf hw (h w' _ (I.tok _) rw')
  · subst ey
    cases (show u = Value.ref b from ry)
    obtain ⟨z, hd, xs, rel, dd⟩ := dt_rd I.hok e
    obtain ⟨w', hw, rw'⟩ := RelO.some_of (v := v) (o := (atKey xs k).map (·.2)) (by rw [l]; exact rel.val k)
    obtain ⟨p, hp, hp2⟩ := Option.map_eq_some_iff.mp hw
    refine wpAny_getItem_heap (tupleKind_room_in1 hu) (key_of I.hok eb) dd hp ?_
    rw [hp2]
    exact h w' _ (I.tok _) rw'
/-- y in d -/
theorem d_in {Q : Value → Shared → Prop} (hu : A.units + 1 < cLine) (I : Inv X pins σ H s) (g : DGet H a y o) (ry : RelV y u) (h : ∀ s', Inv X pins σ H s' → Q (.bool o.isSome) s') :
    wpAny (model X.prog X.w) A (compareOp .In u (.ref a)) Q E s := by
  rcases g with ⟨kvs, k, e, ey, l⟩ | ⟨kvs, k, b, e, ey, eb, l⟩
  · subst ey
    obtain ⟨z, hd, vs, rel, dd⟩ := dk_rd I.hok e
    refine wpAny_in_of (kV_is ry) hd dd.mapOf ?_
    rw [← (rel.val k).isSome_eq, ← l]
    exact h _ (I.tok _)
  · subst ey
    cases (show u = Value.ref b from ry)
    obtain ⟨z, hd, xs, rel, dd⟩ := dt_rd I.hok e
    refine wpAny_in_heap (tupleKind_room_in1 hu) (key_of I.hok eb) hd dd ?_
    have q := (rel.val k).isSome_eq
    rw [Option.isSome_map] at q
    rw [← q, ← l]
    exact h _ (I.tok _)
theorem d_notIn {Q : Value → Shared → Prop} (hu : A.units + 1 < cLine) (I : Inv X pins σ H s) (g : DGet H a y o) (ry : RelV y u) (h : ∀ s', Inv X pins σ H s' → Q (.bool (!o.isSome)) s') :
    wpAny (model X.prog X.w) A (compareOp .NotIn u (.ref a)) Q E s := by
  rcases g with ⟨kvs, k, e, ey, l⟩ | ⟨kvs, k, b, e, ey, eb, l⟩
  · subst ey
    obtain ⟨z, hd, vs, rel, dd⟩ := dk_rd I.hok e
    refine wpAny_notIn_of (kV_is ry) hd dd.mapOf ?_
    rw [← (rel.val k).isSome_eq, ← l]
    exact h _ (I.tok _)
  · subst ey
    cases (show u = Value.ref b from ry)
    obtain ⟨z, hd, xs, rel, dd⟩ := dt_rd I.hok e
    refine wpAny_notIn_heap (tupleKind_room_in1 hu) (key_of I.hok eb) hd dd ?_
    have q := (rel.val k).isSome_eq
    rw [Option.isSome_map] at q
    rw [← q, ← l]
    exact h _ (I.tok _)
/-- a dict's object is replaced -/
theorem d_write {h' : Heap} {t' : Nat} {ob : HO} (I : Inv X pins σ H s) (mu : Mut (H a)) (hs : Heap.SameBut a s.heap h') (he : ∃ q, h'.get? a = some q) (new : ObjOk X.prog X.w (upd H a ob) h' a ob) :
    Inv X pins σ (upd H a ob) { s with heap := h', toks := t' } :=
  I.write (x := a) (e := a) mu (.inl rfl) (fun b q hb z => (hs.2 b hb).trans z) he new
theorem dk_new {P : Program} {w : World} {H' : Hp} {h' : Heap} {kvs : List (Key × V)} {vs : List (Key × Value)} (z : kvs.length ≤ sizeLine) (hd : (a == sysModules) = false) (rel : KV kvs vs) (dd : h'.DictOf (mixKind P w) a vs) :
    ObjOk P w H' h' a (.dK kvs) := ⟨z, hd, vs, rel, dd⟩
/-- d[y] = v -/
theorem d_setItem {H' : Hp} {Q : Unit → Shared → Prop} (hu : A.units + 1 < cLine) (I : Inv X pins σ H s) (g : DPut H a y v H') (ry : RelV y u) (rv : RelV v r) (h : ∀ s', Inv X pins σ H' s' → Q () s') :
    wpAny (model X.prog X.w) A (setItem (.ref a) u r) Q E s := by
  rcases g with ⟨kvs, k, e, ey, l, eH⟩ | ⟨kvs, k, b, e, ey, eb, l, eH⟩
  · subst ey eH
    obtain ⟨z, hd, vs, rel, dd⟩ := dk_of I.hok e
    have hz : vs.length ≤ sizeLine := by rw [← rel.length]; exact z
    have hl : (putK kvs k v).length ≤ sizeLine := by have := length_putK kvs k v; omega
    refine wpAny_setItem_pairs (hsz := hz) (kV_is ry) dd fun h' dd' hs => h _ ?_
    have he : ∃ q, h'.get? a = some q := let ⟨q, _, _, hq, _⟩ := dd'; ⟨q, hq⟩
    exact d_write I (by rw [e]; exact True.intro) hs he (dk_new hl hd (rel.put k rv) dd')
  · subst ey eH
    cases (show u = Value.ref b from ry)
    obtain ⟨z, hd, xs, rel, dd⟩ := dt_of I.hok e
    have hz : xs.length ≤ sizeLine := by rw [← Paired.length rel]; exact z
    have hl : (putK kvs k v).length ≤ sizeLine := by have := length_putK kvs k v; omega
    refine wpAny_setItem_heap (hsz := hz) (tupleKind_room_in1 hu) (key_of I.hok eb) dd fun h' dd' hs => h _ ?_
    obtain ⟨q, es, ep, hq, h2, h3, h4, _, h5⟩ := dd'
    refine d_write I (by rw [e]; exact True.intro) hs ⟨q, hq⟩ ⟨hl, hd, _, (rel.put k eb rv).keeps fun c ys ec => ?_, q, es, ep, hq, h2, h3, h4, h5⟩
    rw [upd_ne (ne_of ec e (fun z => nomatch z))]
    exact ec
end

section
variable {X : Cx} {pins : List (Addr × Obj)} {σ : St} {H : Hp} {s : Shared} {a : Addr} {kvs : List (Key × V)} {k : Key} {u : Value} {A : Around} {E : Value → Shared → Prop}
/-- del d[k] -/
theorem d_delItem {Q : Unit → Shared → Prop} (I : Inv X pins σ H s) (e : H a = some (.dK kvs)) (ry : RelV (kV k) u) (l : (valV kvs k).isSome = true) (h : ∀ s', Inv X pins σ (upd H a (.dK (dropK kvs k))) s' → Q () s') :
    wpAny (model X.prog X.w) A (delItem (.ref a) u) Q E s := by
  obtain ⟨z, hd, vs, rel, dd⟩ := dk_of I.hok e
  refine wpAny_delItem_slot dd.typeIs (by decide) PySem.F.slot_dict_delitem
    (call_meetsIn PySem.F.slot_dict_delitem dd.typeIs PySem.F.entry_dict_delitem (PySem.F.args_dict_delitem_2 _ _) (meets_dict_delitem_pairs (mixKind X.prog X.w) a (kV_is ry)) ⟨vs, dd, by rw [← rel.length]; exact z, by rw [← (rel.val k).isSome_eq]; exact l, fun h' dd' hs => h _ ?_⟩)
  have he : ∃ q, h'.get? a = some q := let ⟨q, _, _, hq, _⟩ := dd'; ⟨q, hq⟩
  exact d_write I (by rw [e]; exact True.intro) hs he (dk_new (Nat.le_trans (dropK_le kvs k) z) hd (rel.drop k) dd')
/-- d.pop(k[, x]), there -/
theorem d_pop {v : V} {more : List Value} {Q : Value → Shared → Prop} (I : Inv X pins σ H s) (e : H a = some (.dK kvs)) (ry : RelV (kV k) u) (l : valV kvs k = some v) (hm : more = [] ∨ ∃ x, more = [x])
    (h : ∀ w' s', Inv X pins σ (upd H a (.dK (dropK kvs k))) s' → RelV v w' → Q w' s') : wpAny (model X.prog X.w) A (call (.builtin "dict.pop") (.ref a :: u :: more)) Q E s := by
  obtain ⟨z, hd, vs, rel, dd⟩ := dk_of I.hok e
  obtain ⟨w', hw, rw'⟩ := RelO.some_of (v := v) (o := valueAt vs k) (by rw [← l]; exact rel.val k)
  have hp : (keyPart u).isSome = true := by
    cases k with
    | inl i => obtain ⟨t, q⟩ := (show ∃ t, u = Value.int i t from ry); subst q; rfl
    | inr x => obtain ⟨t, q⟩ := (show ∃ t, u = Value.str x t from ry); subst q; rfl
  have ha : argsOk "dict.pop" ⟨.ref a :: u :: more, []⟩ := by
    rcases hm with q | ⟨x, q⟩
    · subst q; exact PySem.F.args_dict_pop_2 _ _
    · subst q; exact PySem.F.args_dict_pop_3 _ _ _
  refine call_meetsIn PySem.F.slot_dict_pop dd.typeIs PySem.F.entry_dict_pop ha (meets_dict_pop_there (mixKind X.prog X.w) a (kV_is ry) more hm hp)
    ⟨vs, w', dd, by rw [← rel.length]; exact z, hw, fun h' dd' hs => h w' _ ?_ rw'⟩
  have he : ∃ q, h'.get? a = some q := let ⟨q, _, _, hq, _⟩ := dd'; ⟨q, hq⟩
  exact d_write I (by rw [e]; exact True.intro) hs he (dk_new (Nat.le_trans (dropK_le kvs k) z) hd (rel.drop k) dd')
/-- d.pop(k, x), not there -/
theorem d_popD {r : Value} {Q : Value → Shared → Prop} (I : Inv X pins σ H s) (e : H a = some (.dK kvs)) (ry : RelV (kV k) u) (l : valV kvs k = none) (h : ∀ s', Inv X pins σ H s' → Q r s') :
    wpAny (model X.prog X.w) A (call (.builtin "dict.pop") [.ref a, u, r]) Q E s := by
  obtain ⟨z, hd, vs, rel, dd⟩ := dk_of I.hok e
  have hn : valueAt vs k = none := RelO.none_of (by rw [← l]; exact rel.val k)
  have hp : (keyPart u).isSome = true := by
    cases k with
    | inl i => obtain ⟨t, q⟩ := (show ∃ t, u = Value.int i t from ry); subst q; rfl
    | inr x => obtain ⟨t, q⟩ := (show ∃ t, u = Value.str x t from ry); subst q; rfl
  exact call_meetsIn PySem.F.slot_dict_pop dd.typeIs PySem.F.entry_dict_pop (PySem.F.args_dict_pop_3 _ _ _) (meets_dict_pop_default (mixKind X.prog X.w) a (kV_is ry) hd hp r) ⟨vs, dd, hn, h _ (I.tok _)⟩
/-- d.clear() -/
theorem d_clear {Q : Value → Shared → Prop} (I : Inv X pins σ H s) (e : H a = some (.dK kvs)) (h : ∀ s', Inv X pins σ (upd H a (.dK [])) s' → Q .none s') : wpAny (model X.prog X.w) A (call (.builtin "dict.clear") [.ref a]) Q E s := by
  obtain ⟨z, hd, vs, rel, dd⟩ := dk_of I.hok e
  refine call_meetsIn PySem.F.slot_dict_clear dd.typeIs PySem.F.entry_dict_clear (PySem.F.args_dict_clear_1 _) (meets_dict_clear (mixKind X.prog X.w) a) ⟨vs, dd, by rw [← rel.length]; exact z, fun h' dd' hs => h _ ?_⟩
  have he : ∃ q, h'.get? a = some q := let ⟨q, _, _, hq, _⟩ := dd'; ⟨q, hq⟩
  exact d_write (t' := s.toks) I (by rw [e]; exact True.intro) hs he (dk_new (Nat.zero_le _) hd .nil dd')
/-- len(d) -/
theorem d_len {Q : Value → Shared → Prop} (I : Inv X pins σ H s) (e : Rd H a (.dK kvs)) (h : ∀ t s', Inv X pins σ H s' → Q (.int kvs.length t) s') : wpAny (model X.prog X.w) A (call (.builtin "len") [.ref a]) Q E s := by
  obtain ⟨z, hd, vs, rel, dd⟩ := dk_rd I.hok e
  refine call_len_dict hd dd (by rw [← rel.length]; rw [sizeLine_eq] at z; omega) ?_
  rw [← rel.length]
  exact h _ _ (I.tok _)
/-- if d -/
theorem d_truth {Q : Bool → Shared → Prop} (I : Inv X pins σ H s) (e : Rd H a (.dK kvs)) (h : ∀ s', Inv X pins σ H s' → Q (!kvs.isEmpty) s') : wpAny (model X.prog X.w) A (truthy (.ref a)) Q E s := by
  obtain ⟨z, hd, vs, rel, dd⟩ := dk_rd I.hok e
  refine wpAny_truthy_dict hd dd (by rw [← rel.length]; rw [sizeLine_eq] at z; omega) ?_
  have q : kvs.isEmpty = vs.isEmpty := by cases rel <;> rfl
  rw [← q]
  exact h _ (I.tok _)
end


/-! ### readings and rules -/
/-- the element of a subscription, not a slice -/
def NoSl (i : Expr) : Prop := ∀ ov iv, subscripted i false ov iv = operate [ov, iv] (getItem ov iv)
theorem subD_of {prog : Program} {w : World} {A : Around} {E : Value → Shared → Prop} {s : Shared} {env : Env} {value slice : Expr} {pos : Pos} {T id : String} {Q : Value → Shared → Prop}
    (hl : typeLookup (.type T) "__getitem__" = pure (some (.builtin id))) (hs : NoSl slice)
    (h : wpAny (model prog w) A (eval value env) (fun o s₁ => wpAny (model prog w) A (eval slice env) (fun i s₂ => s₂.TypeIs o T ∧ wpAny (model prog w) A (getItem o i) Q E s₂) E s₁) E s) :
    wpAny (model prog w) A (eval (.Subscript value slice pos) env) Q E s := by
  refine Subscript_ (wpAny_mono h (fun o s₁ h₁ => wpAny_mono h₁ (fun i s₂ h₂ => ?_) fun _ _ x => x) fun _ _ x => x)
  obtain ⟨hT, h₂⟩ := h₂
  unfold subscriptTail
  refine wpAny_bind ?_
  rw [getitemInPython_of_ne hT.not_modules]
  refine wpAny_bind (wpAny_specialOf hT hl ?_)
  have fin : wpAny (model prog w) A (subscripted slice false o i) (fun r s₃ => wpAny (model prog w) A (letTemporaryGo value o r >>= fun _ => pure r) Q E s₃) E s₂ := by
    rw [hs o i]
    exact wpAny_operating (wpAny_mono h₂ (fun r s₃ h₃ => wpAny_bind (wpAny_letTemporaryGo (wpAny_pure h₃))) fun _ _ x => x)
  first
    | exact wpAny_pure (wpAny_bind fin)
    | exact wpAny_bind (wpAny_pure (wpAny_bind fin))
    | exact wpAny_bind fin

theorem dict_typeIs {X : Cx} {pins : List (Addr × Obj)} {σ : St} {H : Hp} {s : Shared} {a : Addr} {y : V} {o : Option V} (I : Inv X pins σ H s) (g : DGet H a y o) : s.TypeIs (.ref a) "dict" := by
  rcases g with ⟨kvs, k, e, _, _⟩ | ⟨kvs, k, b, e, _, _, _⟩
  · obtain ⟨_, _, vs, _, dd⟩ := dk_rd I.hok e
    exact dd.typeIs
  · obtain ⟨_, _, xs, _, dd⟩ := dt_rd I.hok e
    exact dd.typeIs
theorem dict_noDict {X : Cx} {pins : List (Addr × Obj)} {σ : St} {H : Hp} {s : Shared} {a : Addr} {y : V} {o : Option V} (I : Inv X pins σ H s) (g : DGet H a y o) :
    ∀ b, Value.ref a = .ref b → ∃ ob, s.heap.get? b = some ob ∧ ob.dict = none := fun b q => by
  cases q
  rcases g with ⟨kvs, k, e, _, _⟩ | ⟨kvs, k, b, e, _, _, _⟩
  · obtain ⟨_, _, vs, _, ob, _, _, h1, h2, _⟩ := dk_rd I.hok e
    exact ⟨ob, h1, h2.2.1⟩
  · obtain ⟨_, _, xs, _, ob, _, _, h1, h2, _⟩ := dt_rd I.hok e
    exact ⟨ob, h1, h2.2.1⟩

/-- d[y] -/
def tDGet (td ty : TE) : TE := fun σ H Q => td σ H fun x H1 => ty σ H1 fun y H2 => ∃ a v, x = .ref a ∧ DGet H2 a y (some v) ∧ Q v H2
/-- y in d, y not in d -/
def tDIn (ty td : TE) : TE := fun σ H Q => ty σ H fun y H1 => td σ H1 fun x H2 => ∃ a o, x = .ref a ∧ DGet H2 a y o ∧ Q (.bl o.isSome) H2
def tDNotIn (ty td : TE) : TE := fun σ H Q => ty σ H fun y H1 => td σ H1 fun x H2 => ∃ a o, x = .ref a ∧ DGet H2 a y o ∧ Q (.bl (!o.isSome)) H2
/-- d[y] = v -/
def sDPut (td ty tv : TE) : TS := fun D σ H => tv σ H fun v H1 => td σ H1 fun x H2 => ty σ H2 fun y H3 => ∃ a H4, x = .ref a ∧ DPut H3 a y v H4 ∧ D.nx σ H4
/-- d[y] op= v -/
def sDAug (td ty tv : TE) (rd : V → V → Hp → VK → Prop) : TS := fun D σ H => td σ H fun x H1 => ty σ H1 fun y H2 => ∃ a v, x = .ref a ∧ DGet H2 a y (some v) ∧
  tv σ H2 fun y2 H3 => rd v y2 H3 fun z H4 => ∃ H5, DPut H4 a y z H5 ∧ D.nx σ H5
/-- del d[y] -/
def sDDel (td ty : TE) : TS := fun D σ H => td σ H fun x H1 => ty σ H1 fun y H2 => ∃ a kvs k, x = .ref a ∧ H2 a = some (.dK kvs) ∧ y = kV k ∧ (valV kvs k).isSome = true ∧ D.nx σ (upd H2 a (.dK (dropK kvs k)))

section
variable {X : Cx} {o i e value : Expr} {pos pos' tpos : Pos} {td ty tv : TE}
theorem pe_dget (hu : X.A.units + 1 < cLine) (ho : PE X o td) (hi : PE X i ty) (hs : NoSl i) : PE X (.Subscript o i pos) (tDGet td ty) := by
  intro pins s σ H Q I h
  refine subD_of PySem.F.slot_dict_getitem.lookup hs (thn (ho pins s σ H _ I h) fun u s1 ⟨x, H1, I1, rx, q1⟩ => thn (hi pins s1 σ H1 _ I1 q1) fun iv s2 ⟨y, H2, I2, ry, a, v, ex, g, q2⟩ => ?_)
  subst ex
  obtain rfl : u = Value.ref a := rx
  exact ⟨dict_typeIs I2 g, d_getItem hu I2 g ry fun w' s3 I3 rw' => ⟨v, H2, I3, rw', q2⟩⟩
theorem pc_din (hu : X.A.units + 1 < cLine) (hi : PE X i ty) (ho : PE X o td) : PC X .In i o (tDIn ty td) := by
  intro pins s σ H Q I h
  refine thn (hi pins s σ H _ I h) fun iv s1 ⟨y, H1, I1, ry, q1⟩ => thn (ho pins s1 σ H1 _ I1 q1) fun u s2 ⟨x, H2, I2, rx, a, ov, ex, g, q2⟩ => ?_
  subst ex
  obtain rfl : u = Value.ref a := rx
  exact d_in hu I2 g ry fun s3 I3 => ⟨.bl ov.isSome, H2, I3, rfl, q2⟩
theorem pc_dnotin (hu : X.A.units + 1 < cLine) (hi : PE X i ty) (ho : PE X o td) : PC X .NotIn i o (tDNotIn ty td) := by
  intro pins s σ H Q I h
  refine thn (hi pins s σ H _ I h) fun iv s1 ⟨y, H1, I1, ry, q1⟩ => thn (ho pins s1 σ H1 _ I1 q1) fun u s2 ⟨x, H2, I2, rx, a, ov, ex, g, q2⟩ => ?_
  subst ex
  obtain rfl : u = Value.ref a := rx
  exact d_notIn hu I2 g ry fun s3 I3 => ⟨.bl (!ov.isSome), H2, I3, rfl, q2⟩
theorem ps_dput (hu : X.A.units + 1 < cLine) (ho : PE X o td) (hi : PE X i ty) (hv : PE X value tv) (hs : swapsWith value (some (.Subscript o i pos')) pos.line X.env = pure false) :
    PS X (.Assign [.Subscript o i pos'] value pos) (sDPut td ty tv) := by
  intro pins s σ H D I h
  refine wpAny_Assign_Subscript (thn (hv pins s σ H _ I h) fun r s1 ⟨v, H1, I1, rv, q1⟩ => thn (ho pins s1 σ H1 _ I1 q1) fun u s2 ⟨x, H2, I2, rx, q2⟩ => thn (hi pins s2 σ H2 _ I2 q2) fun iv s3 ⟨y, H3, I3, ry, a, H4, ex, g, q3⟩ => ?_) hs
  subst ex
  obtain rfl : u = Value.ref a := rx
  exact d_setItem hu I3 g ry rv fun s4 I4 => ⟨σ, H4, I4, q3⟩
theorem ps_daug {op : Operator} {rd : V → V → Hp → VK → Prop} (hu : X.A.units + 1 < cLine) (ho : PE X o td) (hi : PE X i ty) (hv : PE X value tv) (hop : InOp X op rd)
    (ha : ∀ ov iv new, augStore i ov iv new = (do holding [new, ov, iv] (setItem ov iv new); release [new, ov, iv] []; pure .next)) : PS X (.AugAssign (.Subscript o i tpos) op value pos) (sDAug td ty tv rd) := by
  intro pins s σ H D I h
  refine wpAny_AugAssign_SubscriptAny (thn (ho pins s σ H _ I h) fun u s1 ⟨x, H1, I1, rx, q1⟩ => thn (hi pins s1 σ H1 _ I1 q1) fun iv s2 ⟨y, H2, I2, ry, a, v, ex, g, q2⟩ => ?_) ha
  subst ex
  obtain rfl : u = Value.ref a := rx
  refine d_getItem hu I2 g ry fun w' s3 I3 rw' => thn (hv pins s3 σ H2 _ I3 q2) fun w2 s4 ⟨y2, H3, I4, ry2, q3⟩ => thn (hop pins s4 σ H3 v y2 w' w2 _ I4 rw' ry2 q3) fun w3 s5 ⟨z, H4, I5, rz, H5, g5, q4⟩ => ?_
  exact d_setItem hu I5 g5 ry rz fun s6 I6 => ⟨σ, H5, I6, q4⟩
theorem ps_ddel (ho : PE X o td) (hi : PE X i ty) : PS X (.Delete [.Subscript o i tpos] pos) (sDDel td ty) := by
  intro pins s σ H D I h
  refine wpAny_Delete (wpAny_deleteEach_cons (wpAny_delete_Subscript (thn (ho pins s σ H _ I h) fun u s1 ⟨x, H1, I1, rx, q1⟩ => thn (hi pins s1 σ H1 _ I1 q1) fun iv s2 ⟨y, H2, I2, ry, a, kvs, k, ex, e, ey, l, q2⟩ => ?_)))
  subst ex ey
  obtain rfl : u = Value.ref a := rx
  exact d_delItem I2 e ry l fun s3 I3 => wpAny_deleteEach_nil ⟨σ, _, I3, q2⟩
end


/-! ### displays -/
theorem dk_empty {P : Program} {w : World} {H : Hp} (h : Heap) (hb : sysModules < h.objs.size) : ObjOk P w H (h.push { cls := .type "dict", data := .dict #[] }) h.objs.size (.dK []) :=
  ⟨Nat.zero_le _, beq_eq_false_iff_ne.mpr (Ne.symm (Nat.ne_of_lt hb)), [], .nil, Heap.DictOf.new h⟩
theorem dt_empty {P : Program} {w : World} {H : Hp} (h : Heap) (hb : sysModules < h.objs.size) : ObjOk P w H (h.push { cls := .type "dict", data := .dict #[] }) h.objs.size (.dT []) :=
  ⟨Nat.zero_le _, beq_eq_false_iff_ne.mpr (Ne.symm (Nat.ne_of_lt hb)), [], .nil, _, #[], 0, Heap.get?_push_size _ rfl, ⟨rfl, rfl, rfl⟩, rfl, rfl, List.nodup_nil⟩
/-- {}, to be a dict of the kind that is wanted -/
def tDNewK : TE := fun _ H Q => ∀ p, H p = none → Q (.ref p) (upd H p (.dK []))
def tDNewT : TE := fun _ H Q => ∀ p, H p = none → Q (.ref p) (upd H p (.dT []))
section
variable {X : Cx} {pos : Pos}
theorem pe_dnewK : PE X (.Dict [] [] pos) tDNewK := fun pins s σ H Q I h =>
  wpAny_Dict_empty ⟨.ref s.heap.objs.size, _, I.laid (a := s.heap.objs.size) (o := .dK []) (t' := s.toks) (fun _ _ q => Heap.get?_push_of_some _ q) (Nat.le_refl _) (dk_empty s.heap I.big), rfl, h _ (I.hok.fresh (Nat.le_refl _))⟩
theorem pe_dnewT : PE X (.Dict [] [] pos) tDNewT := fun pins s σ H Q I h =>
  wpAny_Dict_empty ⟨.ref s.heap.objs.size, _, I.laid (a := s.heap.objs.size) (o := .dT []) (t' := s.toks) (fun _ _ q => Heap.get?_push_of_some _ q) (Nat.le_refl _) (dt_empty s.heap I.big), rfl, h _ (I.hok.fresh (Nat.le_refl _))⟩
end

/-- the pairs of a display, from the left -/
def tPairs : List (TE × TE) → St → Hp → (List (V × V) → Hp → Prop) → Prop
  | [], _, H, Q => Q [] H
  | (tk, tv) :: r, σ, H, Q => tk σ H fun x H1 => tv σ H1 fun y H2 => tPairs r σ H2 fun ps H3 => Q ((x, y) :: ps) H3
abbrev VV : List (V × V) → List (Value × Value) → Prop := Paired fun p q => RelV p.1 q.1 ∧ RelV p.2 q.2
def PPs (X : Cx) (pos : Pos) (keys : List (Option Expr)) (values : List Expr) (trs : List (TE × TE)) : Prop :=
  ∀ (pins : List (Addr × Obj)) (s : Shared) (σ : St) (H : Hp) (Q : List (V × V) → Hp → Prop), Inv X pins σ H s → tPairs trs σ H Q →
    wpAny (model X.prog X.w) X.A (evalPairs (pairTrees keys values X.env pos)) (fun vs s' => ∃ ps H', Inv X pins σ H' s' ∧ VV ps vs ∧ Q ps H') X.xe s
theorem pps_nil {X : Cx} {pos : Pos} : PPs X pos [] [] [] := fun pins s σ H Q I h => pairTrees_nil_walk ⟨[], H, I, .nil, h⟩
theorem pps_cons {X : Cx} {pos : Pos} {k v : Expr} {ks : List (Option Expr)} {vs : List Expr} {tk tv : TE} {trs : List (TE × TE)} (hk : PE X k tk) (hv : PE X v tv) (hr : PPs X pos ks vs trs) :
    PPs X pos (some k :: ks) (v :: vs) ((tk, tv) :: trs) := fun pins s σ H Q I h =>
  pairTrees_cons_walk (thn (hk pins s σ H _ I h) fun u s1 ⟨x, H1, I1, rx, q1⟩ => thn (hv pins s1 σ H1 _ I1 q1) fun w2 s2 ⟨y, H2, I2, ry, q2⟩ =>
    thn (hr pins s2 σ H2 _ I2 q2) fun ws s3 ⟨ps, H3, I3, rel, q3⟩ => ⟨(x, y) :: ps, H3, I3, .cons ⟨rx, ry⟩ rel, q3⟩)

def mergeK (kvs more : List (Key × V)) : List (Key × V) := more.foldl (fun acc kv => putK acc kv.1 kv.2) kvs
theorem KV.merge : ∀ {more : List (Key × V)} {rs : List (Key × Value)} {kvs : List (Key × V)} {vs : List (Key × Value)}, KV more rs → KV kvs vs → KV (mergeK kvs more) (merged vs rs) := by
  intro more rs kvs vs r
  unfold KV at r
  induction r generalizing kvs vs with
  | nil => intro q; exact q
  | @cons p q ps qs h t ih =>
    intro r0
    have e : KV (putK kvs p.1 p.2) (stored vs q.1 q.2) := by
      have := r0.put p.1 h.2
      rw [← h.1]; exact this
    exact ih e
theorem length_mergeK : ∀ (more kvs : List (Key × V)), (mergeK kvs more).length ≤ kvs.length + more.length
  | [], kvs => by show kvs.length ≤ kvs.length + 0; omega
  | p :: r, kvs => by
    have h1 := length_mergeK r (putK kvs p.1 p.2)
    have h2 := length_putK kvs p.1 p.2
    show (mergeK (putK kvs p.1 p.2) r).length ≤ _
    rw [List.length_cons]; omega
theorem carries_of {P : Program} {w : World} : ∀ {kvs : List (Key × V)} {ws : List (Value × Value)}, VV (kvs.map fun kv => (kV kv.1, kv.2)) ws → ∃ rs, Carries (mixKind P w) ws rs ∧ KV kvs rs
  | [], _, r => by rw [List.map_nil] at r; cases r; exact ⟨[], True.intro, .nil⟩
  | p :: kvs, _, r => by
    rw [List.map_cons] at r
    cases r with
    | @cons a b as bs h t =>
      obtain ⟨rs, c, q⟩ := carries_of (P := P) (w := w) t
      obtain ⟨b1, b2⟩ := b
      exact ⟨(p.1, b2) :: rs, ⟨kV_is h.1, rfl, c⟩, .cons ⟨rfl, h.2⟩ q⟩
/-- {k: v, ..} with keys ints and texts; the new dict stands empty while the pairs are made -/
def tDisp (trs : List (TE × TE)) : TE := fun σ H Q => ∀ p, H p = none → tPairs trs σ (upd H p (.dK [])) fun ps H2 => H2 p = some (.dK []) ∧ ∃ kvs : List (Key × V), ps = kvs.map (fun kv => (kV kv.1, kv.2)) ∧ kvs.length ≤ 15 ∧ Q (.ref p) (upd H2 p (.dK (mergeK [] kvs)))
theorem pe_disp {X : Cx} {pos : Pos} {keys : List (Option Expr)} {values : List Expr} {trs : List (TE × TE)} (h : PPs X pos keys values trs) (hall : keys.all (·.isSome) = true) (hl : keys.length = values.length) (h0 : keys ≠ [])
    (h15 : keys.length ≤ 15) : PE X (.Dict keys values pos) (tDisp trs) := by
  intro pins s σ H Q I q
  have hn := I.hok.fresh (Nat.le_refl s.heap.objs.size)
  have I1 := I.laid (a := s.heap.objs.size) (o := .dK []) (h' := s.heap.push { cls := .type "dict", data := .dict #[] }) (t' := s.toks) (fun _ _ q => Heap.get?_push_of_some _ q) (Nat.le_refl _) (dk_empty s.heap I.big)
  refine wpAny_Dict_walk (knd := mixKind X.prog X.w) hall hl h0 h15 (thn (h pins _ σ _ _ I1 (q _ hn)) fun ws s2 ⟨ps, H2, I2, rel, e, kvs, ep, lk, q2⟩ => ?_)
  subst ep
  obtain ⟨rs, c, rk⟩ := carries_of (P := X.prog) (w := X.w) rel
  obtain ⟨z, hd, vs0, r0, dd⟩ := dk_of I2.hok e
  cases r0
  refine ⟨rs, c, dd, fun h' dd' hs => ⟨.ref s.heap.objs.size, _, ?_, rfl, q2⟩⟩
  have hz : (mergeK [] kvs).length ≤ sizeLine := by
    have h1 := length_mergeK kvs []
    rw [List.length_nil] at h1
    rw [sizeLine_eq]; omega
  have he : ∃ q, h'.get? s.heap.objs.size = some q := let ⟨q, _, _, hq, _⟩ := dd'; ⟨q, hq⟩
  exact d_write I2 (by rw [e]; exact True.intro) hs he (dk_new hz hd (rk.merge .nil) dd')


/-! ### methods -/
/-- a method call o.m(e) of a built-in, with one argument: what must be seen of the text -/
structure M1 (X : Cx) (o : Expr) (m : Str) (apos : Pos) (e : Expr) (cpos : Pos) : Prop where
  base : attributeBase o m X.env (eval o X.env) = eval o X.env
  few : ((backTo cpos (starEach [e] X.env)).all (fun x => !x.1) && (backToKw cpos (keywordEach [] X.env)).all (fun x => x.1.isSome)
    && decide (([e] : List Expr).length + ([] : List Keyword).length + (if ([] : List Keyword).isEmpty then 0 else 1) < 30)) = true
  line : (apos.endLine == cpos.line) = true
  trees : backTo cpos (starEach [e] X.env) = [(false, eval e X.env)]
structure M2 (X : Cx) (o : Expr) (m : Str) (apos : Pos) (e f : Expr) (cpos : Pos) : Prop where
  base : attributeBase o m X.env (eval o X.env) = eval o X.env
  few : ((backTo cpos (starEach [e, f] X.env)).all (fun x => !x.1) && (backToKw cpos (keywordEach [] X.env)).all (fun x => x.1.isSome)
    && decide (([e, f] : List Expr).length + ([] : List Keyword).length + (if ([] : List Keyword).isEmpty then 0 else 1) < 30)) = true
  line : (apos.endLine == cpos.line) = true
  trees : backTo cpos (starEach [e, f] X.env) = [(false, eval e X.env), (false, eval f X.env)]

/-- a is a dict, whatever its keys -/
def IsD (H : Hp) (a : Addr) : Prop := (∃ kvs, Rd H a (.dK kvs)) ∨ ∃ kvs, Rd H a (.dT kvs)
theorem isD_at {X : Cx} {pins : List (Addr × Obj)} {σ : St} {H : Hp} {s : Shared} {a : Addr} (I : Inv X pins σ H s) (d : IsD H a) :
    s.TypeIs (.ref a) "dict" ∧ (∀ b, Value.ref a = .ref b → ∃ ob, s.heap.get? b = some ob ∧ ob.dict = none) ∧ (a == sysModules) = false := by
  rcases d with ⟨kvs, e⟩ | ⟨kvs, e⟩
  · obtain ⟨_, hd, vs, _, dd⟩ := dk_rd I.hok e
    refine ⟨dd.typeIs, fun b q => ?_, hd⟩
    cases q
    obtain ⟨ob, _, _, h1, h2, _⟩ := dd
    exact ⟨ob, h1, h2.2.1⟩
  · obtain ⟨_, hd, xs, _, dd⟩ := dt_rd I.hok e
    refine ⟨dd.typeIs, fun b q => ?_, hd⟩
    cases q
    obtain ⟨ob, _, _, h1, h2, _⟩ := dd
    exact ⟨ob, h1, h2.2.1⟩

section
variable {X : Cx} {pins : List (Addr × Obj)} {σ : St} {H : Hp} {s : Shared} {a : Addr} {y d : V} {u r : Value} {o : Option V} {A : Around} {E : Value → Shared → Prop}
/-- d.get(y) -/
theorem d_get1 {Q : Value → Shared → Prop} (hu : A.units + 1 < cLine) (I : Inv X pins σ H s) (g : DGet H a y o) (ry : RelV y u) (h : ∀ w' s', Inv X pins σ H s' → RelV (o.getD .non) w' → Q w' s') :
    wpAny (model X.prog X.w) A (call (.builtin "dict.get") [.ref a, u]) Q E s := by
  rcases g with ⟨kvs, k, e, ey, l⟩ | ⟨kvs, k, b, e, ey, eb, l⟩
  · subst ey
    obtain ⟨z, hd, vs, rel, dd⟩ := dk_rd I.hok e
    refine call_meetsIn PySem.F.slot_dict_get dd.typeIs PySem.F.entry_dict_get (PySem.F.args_dict_get_2 _ _) (meets_dict_get (mixKind X.prog X.w) a (kV_is ry) hd) ⟨_, dd.mapOf, h _ _ (I.tok _) ?_⟩
    rw [l]
    exact (rel.val k).getD rfl
  · subst ey
    cases (show u = Value.ref b from ry)
    obtain ⟨z, hd, xs, rel, dd⟩ := dt_rd I.hok e
    refine call_meetsIn PySem.F.slot_dict_get dd.typeIs PySem.F.entry_dict_get (PySem.F.args_dict_get_2 _ _) (meetsH_dict_get (tupleKind (mixKind X.prog X.w)) a b hd) ⟨tupleKind_room_in1 hu, k, xs, key_of I.hok eb, dd, h _ _ (I.tok _) ?_⟩
    rw [l]
    exact (rel.val k).getD rfl
/-- d.get(y, x) -/
theorem d_get2 {Q : Value → Shared → Prop} (hu : A.units + 1 < cLine) (I : Inv X pins σ H s) (g : DGet H a y o) (ry : RelV y u) (rd : RelV d r) (h : ∀ w' s', Inv X pins σ H s' → RelV (o.getD d) w' → Q w' s') :
    wpAny (model X.prog X.w) A (call (.builtin "dict.get") [.ref a, u, r]) Q E s := by
  rcases g with ⟨kvs, k, e, ey, l⟩ | ⟨kvs, k, b, e, ey, eb, l⟩
  · subst ey
    obtain ⟨z, hd, vs, rel, dd⟩ := dk_rd I.hok e
    refine call_meetsIn PySem.F.slot_dict_get dd.typeIs PySem.F.entry_dict_get (PySem.F.args_dict_get_3 _ _ _) (meets_dict_get_default (mixKind X.prog X.w) a (kV_is ry) hd r) ⟨_, dd.mapOf, h _ _ (I.tok _) ?_⟩
    rw [l]
    exact (rel.val k).getD rd
  · subst ey
    cases (show u = Value.ref b from ry)
    obtain ⟨z, hd, xs, rel, dd⟩ := dt_rd I.hok e
    refine call_meetsIn PySem.F.slot_dict_get dd.typeIs PySem.F.entry_dict_get (PySem.F.args_dict_get_3 _ _ _) (meetsH_dict_get_default (tupleKind (mixKind X.prog X.w)) a b hd r) ⟨tupleKind_room_in1 hu, k, xs, key_of I.hok eb, dd, h _ _ (I.tok _) ?_⟩
    rw [l]
    exact (rel.val k).getD rd
end

def tDGet1 (td ty : TE) : TE := fun σ H Q => td σ H fun x H1 => ∃ a, x = .ref a ∧ IsD H1 a ∧ ty σ H1 fun y H2 => ∃ o, DGet H2 a y o ∧ Q (o.getD .non) H2
def tDGet2 (td ty tx : TE) : TE := fun σ H Q => td σ H fun x H1 => ∃ a, x = .ref a ∧ IsD H1 a ∧ ty σ H1 fun y H2 => tx σ H2 fun z H3 => ∃ o, DGet H3 a y o ∧ Q (o.getD z) H3
/-- d.pop(k): there; d.pop(k, x): there or not -/
def tDPop1 (td ty : TE) : TE := fun σ H Q => td σ H fun x H1 => ∃ a, x = .ref a ∧ IsD H1 a ∧ ty σ H1 fun y H2 => ∃ kvs k v, H2 a = some (.dK kvs) ∧ y = kV k ∧ valV kvs k = some v ∧ Q v (upd H2 a (.dK (dropK kvs k)))
def tDPop2 (td ty tx : TE) : TE := fun σ H Q => td σ H fun x H1 => ∃ a, x = .ref a ∧ IsD H1 a ∧ ty σ H1 fun y H2 => tx σ H2 fun z H3 => ∃ kvs k, H3 a = some (.dK kvs) ∧ y = kV k ∧
  (∀ v, valV kvs k = some v → Q v (upd H3 a (.dK (dropK kvs k)))) ∧ (valV kvs k = none → Q z H3)
section
variable {X : Cx} {o e f : Expr} {apos cpos : Pos} {td ty tx : TE}
theorem pe_dget1 (hu : X.A.units + 1 < cLine) (ho : PE X o td) (he : PE X e ty) (m : M1 X o "get" apos e cpos) : PE X (.Call (.Attribute o "get" apos) [e] [] cpos) (tDGet1 td ty) := by
  intro pins s σ H Q I h
  refine wpAny_Call_method m.base m.few m.line PySem.F.plainAttrs_dict PySem.F.slot_dict_get PySem.F.type_dict_get (thn (ho pins s σ H _ I h) fun u s1 ⟨x, H1, I1, rx, a, ex, d, q1⟩ => ?_)
  subst ex
  obtain rfl : u = Value.ref a := rx
  obtain ⟨t1, t2, _⟩ := isD_at I1 d
  refine ⟨t1, t2, ?_⟩
  rw [m.trees]
  refine Calls.callWith_builtin rfl (Calls.evalArgs_plain (Calls.spliced_cons (thn (he pins s1 σ H1 _ I1 q1) fun iv s2 ⟨y, H2, I2, ry, ov, g, q2⟩ => Calls.spliced_nil ?_)))
  exact d_get1 hu I2 g ry fun w' s3 I3 rw' => ⟨_, H2, I3, rw', q2⟩
theorem pe_dget2 (hu : X.A.units + 1 < cLine) (ho : PE X o td) (he : PE X e ty) (hf : PE X f tx) (m : M2 X o "get" apos e f cpos) : PE X (.Call (.Attribute o "get" apos) [e, f] [] cpos) (tDGet2 td ty tx) := by
  intro pins s σ H Q I h
  refine wpAny_Call_method m.base m.few m.line PySem.F.plainAttrs_dict PySem.F.slot_dict_get PySem.F.type_dict_get (thn (ho pins s σ H _ I h) fun u s1 ⟨x, H1, I1, rx, a, ex, d, q1⟩ => ?_)
  subst ex
  obtain rfl : u = Value.ref a := rx
  obtain ⟨t1, t2, _⟩ := isD_at I1 d
  refine ⟨t1, t2, ?_⟩
  rw [m.trees]
  refine Calls.callWith_builtin rfl (Calls.evalArgs_plain (Calls.spliced_cons (thn (he pins s1 σ H1 _ I1 q1) fun iv s2 ⟨y, H2, I2, ry, q2⟩ =>
    Calls.spliced_cons (thn (hf pins s2 σ H2 _ I2 q2) fun fv s3 ⟨z, H3, I3, rz, ov, g, q3⟩ => Calls.spliced_nil ?_))))
  exact d_get2 hu I3 g ry rz fun w' s4 I4 rw' => ⟨_, H3, I4, rw', q3⟩
theorem pe_dpop1 (ho : PE X o td) (he : PE X e ty) (m : M1 X o "pop" apos e cpos) : PE X (.Call (.Attribute o "pop" apos) [e] [] cpos) (tDPop1 td ty) := by
  intro pins s σ H Q I h
  refine wpAny_Call_method m.base m.few m.line PySem.F.plainAttrs_dict PySem.F.slot_dict_pop PySem.F.type_dict_pop (thn (ho pins s σ H _ I h) fun u s1 ⟨x, H1, I1, rx, a, ex, d, q1⟩ => ?_)
  subst ex
  obtain rfl : u = Value.ref a := rx
  obtain ⟨t1, t2, _⟩ := isD_at I1 d
  refine ⟨t1, t2, ?_⟩
  rw [m.trees]
  refine Calls.callWith_builtin rfl (Calls.evalArgs_plain (Calls.spliced_cons (thn (he pins s1 σ H1 _ I1 q1) fun iv s2 ⟨y, H2, I2, ry, kvs, k, v, ea, ey, l, q2⟩ => Calls.spliced_nil ?_)))
  subst ey
  exact d_pop I2 ea ry l (.inl rfl) fun w' s3 I3 rw' => ⟨v, _, I3, rw', q2⟩
theorem pe_dpop2 (ho : PE X o td) (he : PE X e ty) (hf : PE X f tx) (m : M2 X o "pop" apos e f cpos) : PE X (.Call (.Attribute o "pop" apos) [e, f] [] cpos) (tDPop2 td ty tx) := by
  intro pins s σ H Q I h
  refine wpAny_Call_method m.base m.few m.line PySem.F.plainAttrs_dict PySem.F.slot_dict_pop PySem.F.type_dict_pop (thn (ho pins s σ H _ I h) fun u s1 ⟨x, H1, I1, rx, a, ex, d, q1⟩ => ?_)
  subst ex
  obtain rfl : u = Value.ref a := rx
  obtain ⟨t1, t2, _⟩ := isD_at I1 d
  refine ⟨t1, t2, ?_⟩
  rw [m.trees]
  refine Calls.callWith_builtin rfl (Calls.evalArgs_plain (Calls.spliced_cons (thn (he pins s1 σ H1 _ I1 q1) fun iv s2 ⟨y, H2, I2, ry, q2⟩ =>
    Calls.spliced_cons (thn (hf pins s2 σ H2 _ I2 q2) fun fv s3 ⟨z, H3, I3, rz, kvs, k, ea, ey, q3, q4⟩ => Calls.spliced_nil ?_))))
  subst ey
  cases l : valV kvs k with
  | some v => exact d_pop I3 ea ry l (.inr ⟨fv, rfl⟩) fun w' s4 I4 rw' => ⟨v, _, I4, rw', q3 v l⟩
  | none => exact d_popD I3 ea ry l fun s4 I4 => ⟨z, H3, I4, rz, q4 l⟩
end

/-! ### dict(d): a copy -/
section
variable {X : Cx} {pins : List (Addr × Obj)} {σ : St} {H : Hp} {s : Shared} {a : Addr} {kvs : List (Key × V)} {A : Around} {E : Value → Shared → Prop}
theorem d_copyOf {Q : Value → Shared → Prop} (I : Inv X pins σ H s) (e : Rd H a (.dK kvs)) (h : ∀ p s', H p = none → Inv X pins σ (upd H p (.dK kvs)) s' → Q (.ref p) s') : wpAny (model X.prog X.w) A (call (.type "dict") [.ref a]) Q E s := by
  obtain ⟨z, hd, vs, rel, dd⟩ := dk_rd I.hok e
  refine kt_call_dict hd dd (by rw [← rel.length]; exact z) fun h' dd' hs => ?_
  refine h _ _ (I.hok.fresh (Nat.le_refl _)) (I.laid (a := s.heap.objs.size) (o := .dK kvs) (t' := s.toks) (fun b q hq => ?_) (Nat.le_refl _) (dk_new z (beq_eq_false_iff_ne.mpr (Ne.symm (Nat.ne_of_lt I.big))) rel dd'))
  exact (hs.2 b (Nat.ne_of_lt (Heap.lt_size hq))).trans (Heap.get?_push_of_some _ hq)
end


section
variable {X : Cx} {pins : List (Addr × Obj)} {σ : St} {H : Hp} {s : Shared} {a : Addr} {y : V} {u : Value} {A : Around} {E : Value → Shared → Prop}
/-- d[y], not there: a KeyError -/
theorem d_missing {Q : Value → Shared → Prop} (hu : A.units + 1 < cLine) (hh : A.handled = none) (I : Inv X pins σ H s) (g : DGet H a y none) (ry : RelV y u)
    (h : ∀ h' e t', Heap.NewExc s.heap h' e "KeyError" → E (.ref e) { s with heap := h', toks := t' }) : wpAny (model X.prog X.w) A (getItem (.ref a) u) Q E s := by
  rcases g with ⟨kvs, k, e, ey, l⟩ | ⟨kvs, k, b, e, ey, eb, l⟩
  · subst ey
    obtain ⟨z, hd, vs, rel, dd⟩ := dk_rd I.hok e
    have hn : valueAt vs k = none := RelO.none_of (by rw [l]; exact rel.val k)
    exact wpAny_getItem_missing_of (kV_is ry) hd hh dd.mapOf hn fun h' ex ne => h h' ex _ ne
  · subst ey
    cases (show u = Value.ref b from ry)
    obtain ⟨z, hd, xs, rel, dd⟩ := dt_rd I.hok e
    have hn : (atKey xs k).map (·.2) = none := RelO.none_of (by rw [l]; exact rel.val k)
    exact wpAny_getItem_missing_heap (tupleKind_room_in1 hu) (key_of I.hok eb) hd hh dd (Option.map_eq_none_iff.mp hn) fun h' ex ne => h h' ex _ ne
end
end L2
namespace L2
open PySem PySem.Spec PyProof.Rows
/-! ### a dict's pairs: keys that differ -/
section
variable {κ : Type} [DecidableEq κ]
theorem valV_not {kvs : List (κ × V)} {k : κ} (h : valV kvs k = none) : ¬ k ∈ kvs.map (·.1) := by
  intro m
  obtain ⟨p, hp, e⟩ := List.mem_map.mp m
  have q : (kvs.any fun kv => decide (kv.1 = k)) = true := List.any_eq_true.mpr ⟨p, hp, decide_eq_true e⟩
  rw [valV_any, h] at q
  exact absurd q (by simp)
theorem valV_in {kvs : List (κ × V)} {k : κ} {v : V} (h : valV kvs k = some v) : k ∈ kvs.map (·.1) := by
  have q : (kvs.any fun kv => decide (kv.1 = k)) = true := by
    rw [valV_any, h]
    all_goals rfl
  obtain ⟨p, hp, e⟩ := List.any_eq_true.mp q
  exact List.mem_map.mpr ⟨p, hp, of_decide_eq_true e⟩
theorem nd_snoc : ∀ {l : List κ} {k : κ}, l.Nodup → ¬ k ∈ l → (l ++ [k]).Nodup
  | [], k, _, _ => by simp
  | a :: r, k, h, hk => by
    obtain ⟨h1, h2⟩ := List.nodup_cons.mp h
    show (a :: (r ++ [k])).Nodup
    refine List.nodup_cons.mpr ⟨fun m => ?_, nd_snoc h2 fun m => hk (List.mem_cons.mpr (Or.inr m))⟩
    rcases List.mem_append.mp m with q | q
    · exact h1 q
    · exact hk (List.mem_cons.mpr (Or.inl (List.mem_singleton.mp q).symm))
theorem nd_putK {kvs : List (κ × V)} {k : κ} (v : V) (hn : (kvs.map (·.1)).Nodup) (h : valV kvs k = none) : ((putK kvs k v).map (·.1)).Nodup := by
  rw [putK_new v h, List.map_append]
  exact nd_snoc hn (valV_not h)
theorem dropK_pos {p : κ × V} {r : List (κ × V)} {k : κ} (e : p.1 = k) : dropK (p :: r) k = dropK r k := by
  unfold dropK
  rw [List.filter_cons, if_neg (by simp [e])]
theorem dropK_neg {p : κ × V} {r : List (κ × V)} {k : κ} (e : ¬ p.1 = k) : dropK (p :: r) k = p :: dropK r k := by
  unfold dropK
  rw [List.filter_cons, if_pos (by simp [e])]
theorem dropK_no : ∀ {kvs : List (κ × V)} {k : κ}, ¬ k ∈ kvs.map (·.1) → dropK kvs k = kvs
  | [], _, _ => rfl
  | p :: r, k, h => by
    have h' : ¬ k ∈ r.map (·.1) := fun m => by
      obtain ⟨q, hq, e⟩ := List.mem_map.mp m
      exact h (List.mem_map.mpr ⟨q, List.mem_cons.mpr (Or.inr hq), e⟩)
    rw [dropK_neg fun e => h (List.mem_map.mpr ⟨p, List.mem_cons.mpr (Or.inl rfl), e⟩), dropK_no h']
theorem dropK_mem {kvs : List (κ × V)} {k : κ} {p : κ × V} (h : p ∈ dropK kvs k) : p ∈ kvs := (List.mem_filter.mp h).1
theorem nd_dropK : ∀ {kvs : List (κ × V)} {k : κ}, (kvs.map (·.1)).Nodup → ((dropK kvs k).map (·.1)).Nodup
  | [], _, _ => List.nodup_nil
  | p :: r, k, h => by
    have h : (p.1 :: r.map (·.1)).Nodup := h
    obtain ⟨h1, h2⟩ := List.nodup_cons.mp h
    by_cases e : p.1 = k
    · rw [dropK_pos e]
      exact nd_dropK h2
    · rw [dropK_neg e]
      show (p.1 :: (dropK r k).map (·.1)).Nodup
      refine List.nodup_cons.mpr ⟨fun m => h1 ?_, nd_dropK h2⟩
      obtain ⟨q, hq, eq⟩ := List.mem_map.mp m
      exact List.mem_map.mpr ⟨q, dropK_mem hq, eq⟩
theorem dropK_len : ∀ {kvs : List (κ × V)} {k : κ}, (kvs.map (·.1)).Nodup → k ∈ kvs.map (·.1) → (dropK kvs k).length + 1 = kvs.length
  | [], _, _, m => by simp at m
  | p :: r, k, h, m => by
    have h : (p.1 :: r.map (·.1)).Nodup := h
    have m : k = p.1 ∨ k ∈ r.map (·.1) := List.mem_cons.mp m
    obtain ⟨h1, h2⟩ := List.nodup_cons.mp h
    by_cases e : p.1 = k
    · subst e
      rw [dropK_pos rfl, dropK_no h1]
      all_goals rfl
    · have m' : k ∈ r.map (·.1) := m.resolve_left fun z => e z.symm
      have q := dropK_len h2 m'
      rw [dropK_neg e, List.length_cons, List.length_cons]
      omega
end
end L2
namespace L2
open PySem PySem.Spec PyProof.Rows

/-! ### closures -/
theorem forIn_clos {env : Env} : ∀ (names : List (Str × NameKind)) (acc : List (Str × Addr)), (∀ x ∈ names, x.2 = .free → ∃ c, env.cells.lookup x.1 = some c) →
    (∀ x c, acc.lookup x = some c → env.cells.lookup x = some c) →
    ∃ cl, (forIn names acc fun x r => (if (x.2 == NameKind.free) = true then (do let a ← cellOf env x.1; pure (ForInStep.yield ((x.1, a) :: r))) else pure (ForInStep.yield r)) : Sem (List (Str × Addr))) = pure cl ∧
      (∀ x c, cl.lookup x = some c → env.cells.lookup x = some c) ∧ (∀ x ∈ names, x.2 = .free → ∃ c, cl.lookup x.1 = some c) ∧ ∀ x c, acc.lookup x = some c → ∃ c', cl.lookup x = some c' := by
  intro names
  induction names with
  | nil => intro acc _ h; exact ⟨acc, rfl, h, fun x hx => absurd hx (by simp), fun x c e => ⟨c, e⟩⟩
  | cons x r ih =>
    intro acc hf h
    obtain ⟨n, k⟩ := x
    by_cases hk : k = .free
    · subst hk
      obtain ⟨c, hc⟩ := hf (n, .free) List.mem_cons_self rfl
      have hc : env.cells.lookup n = some c := hc
      obtain ⟨cl, e1, e2, e3, e4⟩ := ih ((n, c) :: acc) (fun y hy => hf y (List.mem_cons_of_mem _ hy)) (fun y d e => by
        rw [List.lookup_cons] at e
        cases q : y == n with
        | true => rw [q] at e; cases e; have := eq_of_beq q; subst this; exact hc
        | false => rw [q] at e; exact h y d e)
      refine ⟨cl, ?_, e2, fun y hy hyf => ?_, fun y d e => ?_⟩
      · rw [List.forIn_cons]
        simp only [beq_self_eq_true, if_true]
        unfold cellOf
        simp only [hc, pure_bind]
        exact e1
      · rcases List.mem_cons.mp hy with z | z
        · subst z
          exact e4 n c (by rw [List.lookup_cons]; simp)
        · exact e3 y z hyf
      · by_cases q : y = n
        · subst q; exact e4 y c (by rw [List.lookup_cons]; simp)
        · exact e4 y d (by rw [List.lookup_cons, beq_false_of_ne q]; exact e)
    · obtain ⟨cl, e1, e2, e3, e4⟩ := ih acc (fun y hy => hf y (List.mem_cons_of_mem _ hy)) h
      refine ⟨cl, ?_, e2, fun y hy hyf => ?_, e4⟩
      · rw [List.forIn_cons]
        have : (k == NameKind.free) = false := by simpa using hk
        simp only [this, Bool.false_eq_true, if_false, pure_bind]
        exact e1
      · rcases List.mem_cons.mp hy with z | z
        · subst z; exact absurd hyf hk
        · exact e3 y z hyf
theorem closure_of {env : Env} {scope : Scope} (hf : ∀ x ∈ scope.names, x.2 = .free → ∃ c, env.cells.lookup x.1 = some c) :
    ∃ cl, closureFor scope env = pure cl ∧ (∀ x c, cl.lookup x = some c → env.cells.lookup x = some c) ∧ ∀ x ∈ scope.names, x.2 = .free → ∃ c, cl.lookup x.1 = some c := by
  obtain ⟨cl, e1, e2, e3, _⟩ := forIn_clos scope.names [] hf (fun x c e => by simp at e)
  refine ⟨cl, ?_, e2, e3⟩
  unfold closureFor
  first
    | exact e1
    | (rw [← e1]; rfl)
    | (simp only [bind_pure]; exact e1)

theorem lookup_relabel {env : Env} : ∀ {names : List (Str × NameKind)} {x : Str} {k : NameKind},
    (names.map fun (n, k) => if (k == NameKind.free && env.scope.kind == .function && env.kindOf n == some .cell) then (n, NameKind.cell) else (n, k)).lookup x = some k →
    k = .cell ∨ k = .free → (∀ y ∈ names, y.2 ≠ .cell) → (x, NameKind.free) ∈ names
  | [], _, _, h, _, _ => by simp at h
  | (n, k0) :: r, x, k, h, hk, hc => by
    have ih := @lookup_relabel env r x k
    rw [List.map_cons] at h
    dsimp only at h
    by_cases hx : x = n
    · subst hx
      by_cases hcond : (k0 == NameKind.free && env.scope.kind == .function && env.kindOf x == some .cell) = true
      · have : k0 = .free := by
          simp only [Bool.and_eq_true] at hcond
          exact eq_of_beq hcond.1.1
        subst this
        exact List.mem_cons_self
      · rw [if_neg hcond, List.lookup_cons] at h
        simp only [beq_self_eq_true] at h
        cases h
        rcases hk with rfl | rfl
        · exact absurd rfl (hc _ List.mem_cons_self)
        · exact List.mem_cons_self
    · have hb : (x == n) = false := beq_false_of_ne hx
      refine List.mem_cons_of_mem _ (ih ?_ hk fun y hy => hc y (List.mem_cons_of_mem _ hy))
      split at h
      · rw [List.lookup_cons, hb] at h; exact h
      · rw [List.lookup_cons, hb] at h; exact h

/-! ### a comprehension's block -/
/-- the context of a comprehension's block -/
def cxComp (X : Cx) (N : List Str) (scope : Scope) (cl : List (Str × Addr)) (C : Addr) (s : Shared) (H : Hp) (fp : List Addr) : Cx where
  prog := X.prog
  w := X.w
  K := X.K
  mg := X.mg
  base := X.base
  A := X.A
  N := N
  s₀ := s
  H₀ := H
  env := compEnvC scope cl C X.env
  outer := X.stack
  stack := X.stack
  ex := fp
  calm := X.calm
  fn := fun _ => false
  pn := []
  xe := fun _ _ => False

/-- the block's names: its own ones (none), those of the frame around it (the slot there) -/
inductive Caps (X : Cx) (scope : Scope) : List Str → List (Option Nat) → Prop
  | nil : Caps X scope [] []
  | own {x : Str} {N : List Str} {js : List (Option Nat)} (t : Caps X scope N js) : Caps X scope (x :: N) (none :: js)
  | cap {x : Str} {j : Nat} {N : List Str} {js : List (Option Nat)} (h1 : X.N[j]? = some x) (h2 : X.env.kindOf x = some .cell ∨ X.env.kindOf x = some .free)
      (h3 : (relabel scope X.env).names.lookup x = some .cell ∨ (relabel scope X.env).names.lookup x = some .free) (t : Caps X scope N js) : Caps X scope (x :: N) (some j :: js)
theorem Caps.len {X : Cx} {scope : Scope} {N : List Str} {js : List (Option Nat)} (c : Caps X scope N js) : js.length = N.length := by
  induction c with
  | nil => rfl
  | own _ ih => simp [ih]
  | cap _ _ _ _ ih => simp [ih]
theorem Caps.get {X : Cx} {scope : Scope} {N : List Str} {js : List (Option Nat)} (c : Caps X scope N js) : ∀ {i j : Nat} {x : Str}, js[i]? = some (some j) → N[i]? = some x →
    X.N[j]? = some x ∧ (X.env.kindOf x = some .cell ∨ X.env.kindOf x = some .free) ∧ ((relabel scope X.env).names.lookup x = some .cell ∨ (relabel scope X.env).names.lookup x = some .free) := by
  induction c with
  | nil => intro i j x h; simp at h
  | own _ ih =>
    intro i j x h1 h2
    cases i with
    | zero => simp at h1
    | succ i => exact ih (by simpa using h1) (by simpa using h2)
  | cap a b d _ ih =>
    intro i j x h1 h2
    cases i with
    | zero =>
      simp at h1 h2
      subst h1 h2
      exact ⟨a, b, d⟩
    | succ i => exact ih (by simpa using h1) (by simpa using h2)

/-- the block's names at its entry -/
def capV (js : List (Option Nat)) (σ : St) : St := js.map fun o => o.bind fun j => (σ[j]?).join
/-- the captured names stay -/
def KeepsV (σ σ' : St) : Prop := σ'.length = σ.length ∧ ∀ (i : Nat) v, σ[i]? = some (some v) → σ'[i]? = some (some v)
theorem KeepsV.refl (σ : St) : KeepsV σ σ := ⟨rfl, fun _ _ h => h⟩
theorem KeepsV.set {σ : St} {i : Nat} {v : Option V} (h : σ[i]? = some none) : KeepsV σ (σ.set i v) := by
  refine ⟨List.length_set, fun j u e => ?_⟩
  by_cases q : i = j
  · subst q; rw [h] at e; cases e
  · rw [List.getElem?_set_ne q]; exact e
theorem KeepsV.trans {a b c : St} (h : KeepsV a b) (k : KeepsV b c) : KeepsV a c := ⟨k.1.trans h.1, fun i v e => k.2 i v (h.2 i v e)⟩

section
variable {X : Cx}
/-- the tests of a clause -/
def PIf (X : Cx) (ifs : List Expr) (t : TT) : Prop :=
  ∀ (pins : List (Addr × Obj)) (s : Shared) (σ : St) (H : Hp) (Q : Bool → Hp → Prop), Inv X pins σ H s → t σ H Q →
    wpAny (model X.prog X.w) X.A (forIn ifs true fun c r => if r = true then do let ok ← isTrue c X.env (eval c X.env); pure (ForInStep.yield ok) else pure (ForInStep.yield r)) (TP X pins σ Q) X.xe s
def tYes : TT := fun _ H Q => Q true H
theorem pif_nil : PIf X [] tYes := by
  intro pins s σ H Q I h
  show wpAny _ _ (pure true) _ _ s
  exact wpAny_pure ⟨H, I, h⟩
theorem pif_one {c : Expr} {t : TT} (h : PT X c t) : PIf X [c] t := by
  intro pins s σ H Q I hq
  rw [List.forIn_cons]
  simp only [if_true]
  refine wpAny_bind (wpAny_bind (thn (h pins s σ H Q I hq) fun b s1 q => wpAny_pure ?_))
  show wpAny _ _ (pure b) _ _ s1
  exact wpAny_pure q
end

/-- the block's judgement for one item: any way it is entered -/
def BlockOk (X : Cx) (N : List Str) (scope : Scope) (js : List (Option Nat)) (tg elt : Expr) (ifs : List Expr) (σ : St) (x : V) (H : Hp) (R : Option V → Hp → Prop) : Prop :=
  ∀ (cl : List (Str × Addr)) (C : Addr) (s : Shared) (H0 : Hp) (fp : List Addr), ∃ (g : TG) (tt : TT) (te : TE), PG (cxComp X N scope cl C s H0 fp) tg g ∧ PIf (cxComp X N scope cl C s H0 fp) ifs tt ∧ PE (cxComp X N scope cl C s H0 fp) elt te ∧
    ∀ σ0, KeepsV (capV js σ) σ0 → g x σ0 H fun σ2 H2 => KeepsV (capV js σ) σ2 ∧ tt σ2 H2 fun b H3 => if b = true then te σ2 H3 fun y H4 => R (some y) H4 else R none H3

/-- [elt for tg in iter if ..]: W by the turn and the list so far; at most n turns -/
def compK (X : Cx) (N : List Str) (scope : Scope) (js : List (Option Nat)) (tg elt : Expr) (ifs : List Expr) (σ : St) (Q : VK) (J : It) (H1 : Hp) : Prop := ∃ (n : Nat) (W : Nat → List V → Hp → Prop), n ≤ sizeLine ∧ W 0 [] H1 ∧
  ∀ i ys H, W i ys H → ys.length ≤ i ∧ ((J.stop i H ∧ ∀ p, H p = none → Q (.ref p) (upd H p (.lst ys))) ∨ (J.go i H ∧ i < n ∧ ∃ R : Option V → Hp → Prop, (∀ y H2, R (some y) H2 → W (i + 1) (ys ++ [y]) H2) ∧ (∀ H2, R none H2 → W (i + 1) ys H2) ∧
    ∀ x H', J.yld i H x H' → BlockOk X N scope js tg elt ifs σ x H' R))
def tComp (X : Cx) (N : List Str) (scope : Scope) (js : List (Option Nat)) (tg elt : Expr) (ifs : List Expr) (wi : TI) : TE := fun σ H Q => wi σ H (compK X N scope js tg elt ifs σ Q)
end L2
namespace L2
open PySem PySem.Spec PyProof.Rows
section
variable {prog : Program} {w : World} {A : Around} {R : Result → Shared → Prop} {s : Shared}
theorem compLoop_any {elt target iter : Expr} {ifs : List Expr} {scope : Scope} {pos : Pos} {it acc : Value} {env : Env} (I : Nat → Shared → Prop)
    (turn : ∀ n s, I n s → wpAny (model prog w) A (pyNext it) (fun r s1 => match r with
      | none => R (.ok .next) s1
      | some v => wpAny (model prog w) A (letOwnedTupleGo target it v) (fun _ s1' => wpAny (model prog w) A (assign target env v) (fun _ s2 =>
          wpAny (model prog w) A (forIn ifs true fun c r => if r = true then do let ok ← isTrue c env (eval c env); pure (ForInStep.yield ok) else pure (ForInStep.yield r)) (fun ok s3 =>
            if ok = true then wpAny (model prog w) A (eval elt env) (fun x s4 =>
              wpAny (model prog w) A (call (.builtin "list.append") [acc, x]) (fun _ s5 => ∃ m, m < n ∧ I m s5) (fun _ _ => False) s4) (fun _ _ => False) s3
            else ∃ m, m < n ∧ I m s3) (fun _ _ => False) s2) (fun _ _ => False) s1') (fun _ _ => False) s1) (fun _ _ => False) s)
    (n : Nat) (h : I n s) :
    codeAny (model prog w) A (.compLoop (.ListComp elt [⟨target, iter, ifs, 0⟩] scope pos) 0 it acc env) R s := by
  refine codeAny_loop rfl I (fun n s hI => ?_) n h
  show wpAny _ A ((compTurn (.ListComp elt [⟨target, iter, ifs, 0⟩] scope pos) 0 it acc env).onRaise (fun x => do noteFrame x env; theTreesLotGoes x)) _ _ s
  refine wpAny_noted ?_
  rw [compTurn_list]
  have nr : ∀ {α : Type} {t : Sem α} {Q : α → Shared → Prop} {E' : Value → Shared → Prop} {s : Shared}, wpAny (model prog w) A t Q (fun _ _ => False) s → wpAny (model prog w) A t Q E' s := fun h => wpAny_mono h (fun _ _ q => q) fun _ _ f => f.elim
  refine wpAny_bind (wpAny_standAt (wpAny_bind (wpAny_mono (turn n s hI) (fun r s₁ h₁ => ?_) fun _ _ h' => h'.elim)))
  cases r with
  | none => exact wpAny_pure h₁
  | some v =>
    refine wpAny_bind (wpAny_mono h₁ (fun _ s1' h1' => ?_) fun _ _ f => f.elim)
    refine wpAny_bind (wpAny_mono h1' (fun _ s₂ h₂ => wpAny_bind (wpAny_mono h₂ (fun ok s₃ h₃ => ?_) fun _ _ h' => h'.elim)) fun _ _ h' => h'.elim)
    cases ok with
    | false => exact wpAny_pure ⟨rfl, h₃⟩
    | true =>
      exact wpAny_bind (wpAny_bind (wpAny_mono h₃ (fun x s₄ h₄ => wpAny_bind (wpAny_mono h₄ (fun _ s₅ h₅ => wpAny_pure (wpAny_pure ⟨rfl, h₅⟩)) fun _ _ h' => h'.elim)) fun _ _ h' => h'.elim))
end

/-- an object that stands untracked is tracked -/
theorem HOk.track {P : Program} {w : World} {H : Hp} {h : Heap} {a : Addr} {o : HO} (x : HOk P w H h) (hn : H a = none) (new : ObjOk P w (upd H a o) h a o) : HOk P w (upd H a o) h := fun b u e => by
  by_cases hb : b = a
  · subst hb; rw [upd_same] at e; cases e; exact new
  · rw [upd_ne hb] at e
    exact (x b u e).stay (fun c v _ q => q) (fun c q => by rw [upd_ne (ne_of_none q hn)]; exact q) fun c xs q => by rw [upd_ne (ne_of_none q hn)]; exact q

section
variable {X : Cx} {pins : List (Addr × Obj)} {σ : St}
/-- behind a block: the new list tracked, the block's own dict at C left over -/
structure CompEnd (X : Cx) (pins : List (Addr × Obj)) (σ : St) (D C : Addr) (ys : List V) (H' : Hp) (s' : Shared) : Prop where
  inv : Inv X pins σ (upd H' D (.lst ys)) s'
  ns : ∃ m, s'.heap.Ns C m
  fp : FpOk X pins (upd H' D (.lst ys)) C
  nD : H' D = none
theorem CompEnd.gone {D C : Addr} {ys : List V} {H H' : Hp} {s' : Shared} {h'' : Heap} {σ' : St} (I : Inv X pins σ' H s') (fp : FpOk X pins H C) (hs : Heap.SameBut C s'.heap h'') : Inv X pins σ' H { s' with heap := h'' } :=
  I.turned (it := C) (t' := s'.toks) (fun b o hb e => (hs.2 b hb).trans e) fp.1 fp.2.1 fp.2.2.2.1 fp.2.2.2.2.1 fp.2.2.2.2.2

theorem append_plain {prog : Program} {w : World} {A : Around} {E : Value → Shared → Prop} {s : Shared} {l : Addr} {items : Array Value} {nn : Nat} {x : Value} {Q : Value → Shared → Prop} (e : s.heap.get? l = some { cls := .type "list", dict := none, data := .seq items nn }) (hz : items.size ≤ sizeLine)
    (hQ : ∀ nn' h', h'.get? l = some { cls := .type "list", dict := none, data := .seq (items.push x) nn' } → Heap.SameBut l s.heap h' → Q .none { s with heap := h' }) :
    wpAny (model prog w) A (call (.builtin "list.append") [.ref l, x]) Q E s := by
  refine call_meets F.slot_list_append ⟨_, e, rfl⟩ F.entry_list_append (F.args_list_append_2 _ _) (PySem.list_append l items nn x (by omega)) ⟨e, ?_⟩
  exact hQ _ _ (Heap.get?_update_self _ e rfl) (Heap.SameBut.update ..)
theorem comp_block {N : List Str} {js : List (Option Nat)} {scope : Scope} {tg elt iter : Expr} {ifs : List Expr} {cl : List (Str × Addr)} {pos : Pos} {it : Addr} {fp : List Addr} {tn : Nat → Heap → Prop} {J : It} {s2 : Shared} {H2 : Hp} {E : Value → Shared → Prop}
    {RR : Value → Addr → Result → Shared → Prop} {Q : VK} (hc : X.calm = true) (caps : Caps X scope N js) (hkind : scope.kind = .function) (hcell : ∀ y ∈ scope.names, y.2 ≠ .cell)
    (hcl1 : ∀ x c, cl.lookup x = some c → X.env.cells.lookup x = some c) (hcl2 : ∀ x ∈ scope.names, x.2 = .free → ∃ c, cl.lookup x.1 = some c)
    (I : Inv X pins σ H2 s2) (T : Turn X.prog X.w X.K tg J fp it tn) (st2 : tn 0 s2.heap) (f2 : ∀ b ∈ fp, FpOk X pins H2 b) (n : Nat) (W : Nat → List V → Hp → Prop) (hn : n ≤ sizeLine) (w0 : W 0 [] H2)
    (turn : ∀ i ys H, W i ys H → ys.length ≤ i ∧ ((J.stop i H ∧ ∀ p, H p = none → Q (.ref p) (upd H p (.lst ys))) ∨ (J.go i H ∧ i < n ∧ ∃ R : Option V → Hp → Prop, (∀ y H2, R (some y) H2 → W (i + 1) (ys ++ [y]) H2) ∧ (∀ H2, R none H2 → W (i + 1) ys H2) ∧
      ∀ x H', J.yld i H x H' → BlockOk X N scope js tg elt ifs σ x H' R)))
    (hRR : ∀ D C ys H' s', CompEnd X pins σ D C ys H' s' → Q (.ref D) (upd H' D (.lst ys)) → RR (.ref D) C (.ok .next) s') :
    wpAny (model X.prog X.w) X.A (newList []) (fun acc s3 => wpAny (model X.prog X.w) X.A (newFunctionEnv scope X.env.globals cl [] X.env.qual none .none (some X.env)) (fun cenv s4 =>
      codeAny (model X.prog X.w) X.A (.compStart (.ListComp elt [⟨tg, iter, ifs, 0⟩] scope pos) 0 (.ref it) acc { cenv with scope := relabel scope X.env }) (RR acc cenv.locals) s4) E s3) E s2 := by
  refine wpAny_newObj_type (wpAny_newFunctionEnv hcell (by intro y hy; simp at hy) (fun h₁ hns₁ hsb₁ => ?_) hkind)
  dsimp only at hns₁ hsb₁ ⊢
  generalize hHh : s2.heap.push { cls := .type "list", dict := none, data := .seq ([] : List Value).toArray } = Hh at hns₁ hsb₁ ⊢
  have hC : Hh.objs.size = s2.heap.objs.size + 1 := by rw [← hHh, Heap.size_push]
  have hDC : s2.heap.objs.size ≠ Hh.objs.size := by rw [hC]; exact Nat.ne_of_lt (Nat.lt_succ_self _)
  have hCle : s2.heap.objs.size ≤ Hh.objs.size := by rw [hC]; exact Nat.le_succ _
  have old : ∀ b o, s2.heap.get? b = some o → h₁.get? b = some o := fun b o e => hsb₁.extBut b o (by rw [hC]; exact Nat.ne_of_lt (Nat.lt_succ_of_lt (Heap.lt_size e))) (Heap.get?_push_of_some _ (hHh ▸ Heap.get?_push_of_some _ e))
  have haccO : h₁.get? s2.heap.objs.size = some { cls := .type "list", dict := none, data := .seq ([] : List Value).toArray } := hsb₁.extBut _ _ hDC (Heap.get?_push_of_some _ (hHh ▸ Heap.get?_push_size _ rfl))
  have st1 : tn 0 h₁ := T.keep _ _ _ st2 fun b hb o e => old b o e
  have fplt : ∀ b ∈ fp, b < s2.heap.objs.size := fun b hb => by
    obtain ⟨o, e, _⟩ := T.obj _ _ st2 b hb
    exact Heap.lt_size e
  have fsIn : ∀ b ∈ frs X.stack, b < s2.heap.objs.size := fun b hb => by
    rcases List.mem_cons.mp (I.stkSub b hb) with z | z
    · rw [z]; exact I.lt
    · refine Nat.lt_of_not_le fun hle => I.nofs hle z
  have fpC : ∀ b ∈ fp, b ≠ Hh.objs.size := fun b hb z => Nat.lt_irrefl _ (Nat.lt_of_lt_of_le (fplt b hb) (z ▸ hCle))
  generalize hD : s2.heap.objs.size = D at *
  generalize hCc : Hh.objs.size = C at *
  let X' := cxComp X N scope cl C s2 H2 fp
  have ok' : X'.Ok := by
    refine ⟨I.ok.mod, hkind, I.ok.glob, I.ok.blt, by show s2.heap.objs.size ≤ C; rw [hD]; exact hCle, fun x y c e1 e2 => I.ok.inj x y c (hcl1 x c e1) (hcl1 y c e2), fun x hx => ?_, fun x c z => absurd (show false = true from z) Bool.false_ne_true, I.ok.hd, I.ok.frames, .inl rfl, fun b hb => ?_,
      I.bs, Nat.le_trans I.ok.bsz I.sz, fun b o e hb => ?_, fun b hb z => ?_, I.stack, I.stkFree⟩
    · have hm : (x, NameKind.free) ∈ scope.names := by
        rcases hx with z | z
        · exact lookup_relabel (env := X.env) z (.inl rfl) hcell
        · exact lookup_relabel (env := X.env) z (.inr rfl) hcell
      exact hcl2 _ hm rfl
    · exact ⟨fpC b hb, fun x c e => (f2 b hb).2.2.2.2.1 x c (hcl1 x c e)⟩
    · rcases (f2 b hb).2.2.2.1 with z | z
      · exact I.ok.noex b o e z
      · exact absurd (Heap.lt_size (I.ok.bs b o e).1) (Nat.not_lt.mpr z)
    · rcases List.mem_cons.mp (I.stkSub b z) with q | q
      · exact (f2 b hb).2.1 q
      · exact (f2 b hb).2.2.1 q
  have hσl : (capV js σ).length = N.length := by unfold capV; rw [List.length_map, caps.len]
  have freeC : H2 C = none := I.hok.fresh (by rw [hD]; exact hCle)
  have freeD : H2 D = none := I.hok.fresh (by rw [hD]; exact Nat.le_refl _)
  have DnotFs : D ∉ frs X.stack := fun z => Nat.lt_irrefl _ (fsIn D z)
  have DnotFp : D ∉ fp := fun z => Nat.lt_irrefl _ (fplt D z)
  -- the start
  have I0 : ∀ tk, Inv X' [] (capV js σ) H2 { s2 with heap := h₁, toks := tk } := fun tk => by
    refine ⟨ok', rfl, I.bare, Un.kept old, ⟨_, hns₁, fun i x v e1 e2 e3 => ?_⟩, fun x c e => ?_, freeC, fun x c e => I.freeC x c (hcl1 x c e), fun p hp => absurd hp (by show ¬ p ∈ ([] ++ [] : List (Addr × Obj)); simp), I.hok.kept old, hσl⟩
    · unfold capV at e2
      rw [List.getElem?_map] at e2
      cases q : js[i]? with
      | none => rw [q] at e2; cases e2
      | some o =>
        rw [q] at e2
        cases o with
        | none => cases e2
        | some j =>
          have e2' : (σ[j]?).join = some v := Option.some.inj e2
          obtain ⟨c1, c2, c3⟩ := caps.get q e1
          have e4 : σ[j]? = some (some v) := by
            cases z : σ[j]? with
            | none => rw [z] at e2'; cases e2'
            | some u => rw [z] at e2'; have : u = some v := e2'; rw [this]
          obtain ⟨m, hm, hl⟩ := I.loc
          have vis : Vis X.env.scope x := by
            rcases c2 with z | z
            · exact .inr (.inl z)
            · exact .inr (.inr z)
          obtain ⟨u, r, l⟩ := hl j x v c1 e4 vis
          refine ⟨u, r, .inr ⟨c3, ?_⟩⟩
          have lc : ∃ c, X.env.cells.lookup x = some c ∧ s2.heap.IsCell c (some u) := by
            rcases l with ⟨k, _⟩ | ⟨_, z⟩
            · rcases c2 with z | z <;> (rw [k] at z; cases z)
            · exact z
          obtain ⟨c, e5, o, ho, hd⟩ := lc
          have hm2 : (x, NameKind.free) ∈ scope.names := by
            rcases c3 with z | z
            · exact lookup_relabel (env := X.env) z (.inl rfl) hcell
            · exact lookup_relabel (env := X.env) z (.inr rfl) hcell
          obtain ⟨c', e6⟩ := hcl2 _ hm2 rfl
          have e7 := hcl1 _ _ e6
          rw [e5] at e7; cases e7
          exact ⟨c, e6, o, old c o ho, hd⟩
    · obtain ⟨v, o, ho, hd⟩ := I.cell x c (hcl1 x c e)
      exact ⟨v, o, old c o ho, hd⟩
  have fpok : ∀ {H' : Hp} {pl : List (Addr × Obj)}, (∀ b ∈ fp, H' b = none) → (∀ b ∈ fp, ∀ p ∈ pl, p.1 ≠ b) → ∀ b ∈ fp, FpOk X' pl H' b := fun {H' pl} hn hpl b hb => by
    refine ⟨hn b hb, fpC b hb, ok'.exfs b hb, .inl hb, fun x c e => (f2 b hb).2.2.2.2.1 x c (hcl1 x c e), fun p hp => hpl b hb p ?_⟩
    have hp' : p ∈ [] ++ pl := hp
    simpa using hp'
  -- the loop's state: turn i, the list ys at D
  let LI : Nat → Shared → Prop := fun k s' => ∃ i ys its nn σ' H', k = n + 1 - i ∧ i ≤ n ∧ W i ys H' ∧ tn i s'.heap ∧ (∀ b ∈ fp, H' b = none) ∧ Vals ys its ∧ KeepsV (capV js σ) σ' ∧
    Inv X' [(D, { cls := .type "list", dict := none, data := .seq its.toArray nn })] σ' H' s'
  have loop : ∀ tk, codeAny (model X.prog X.w) X.A (.compLoop (.ListComp elt [⟨tg, iter, ifs, 0⟩] scope pos) 0 (.ref it) (.ref D) (compEnvC scope cl C X.env)) (RR (.ref D) C) { s2 with heap := h₁, toks := tk } := by
    intro tk
    refine compLoop_any LI ?_ (n + 1) ⟨0, [], [], 0, capV js σ, H2, rfl, Nat.zero_le _, w0, st1, fun b hb => (f2 b hb).1, .nil, KeepsV.refl _, ?_⟩
    · rintro k s3 ⟨i, ys, its, nn, σ3, H3, rfl, hin, w3, st3, fr3, r3, ks, I3⟩
      obtain ⟨hyl, tr⟩ := turn i ys H3 w3
      have fpk := fpok (pl := [(D, { cls := .type "list", dict := none, data := .seq its.toArray nn })]) fr3 (fun b hb p hp z => by
        rw [List.mem_singleton.mp hp] at z
        exact DnotFp ((show D = b from z) ▸ hb))
      rcases tr with ⟨stop, q⟩ | ⟨go, hlt, RW, hR1, hR2, step⟩
      · refine thn (T.done X' rfl rfl rfl hc i _ s3 σ3 H3 _ I3 fpk st3 stop) fun r s4 ⟨hr, I4⟩ => ?_
        subst hr
        show RR (.ref D) C (.ok .next) s4
        obtain ⟨pe, pn, p1, p2, p3⟩ := I4.pin (D, { cls := .type "list", dict := none, data := .seq its.toArray nn }) (by show _ ∈ [] ++ _; simp)
        refine hRR D C ys H3 s4 ?_ (q D pn)
        have hok4 : HOk X.prog X.w (upd H3 D (.lst ys)) s4.heap := HOk.track I4.hok pn ⟨Nat.le_trans hyl (Nat.le_trans hin hn), its, nn, r3, pe⟩
        have ltD : ∀ b u, H2 b = some u → b ≠ D := fun b u e z => by rw [z, freeD] at e; cases e
        have un4 : Un (frs X.stack) fp H2 (upd H3 D (.lst ys)) s2.heap s4.heap := by
          have ub := I4.base
          refine ⟨ub.keep, ub.slot, fun b o e nn' hx => ?_, ub.there, fun b xs e => ?_, fun b o u e => ?_, fun b ps e => ?_⟩
          · rw [upd_ne (fun z => by have := Heap.lt_size e; rw [hD, z] at this; exact Nat.lt_irrefl _ this)]
            exact ub.free b o e nn' hx
          · rw [upd_ne (ltD b _ e)]; exact ub.tups b xs e
          · rw [upd_ne (ltD b _ e)]; exact ub.frzs b o u e
          · rw [upd_ne (ltD b _ e)]; exact ub.tbls b ps e
        refine ⟨I.call' I4.os un4 hok4 I4.bare fun b hb => ⟨(f2 b hb).2.2.2.1, (f2 b hb).2.1, (f2 b hb).2.2.2.2.1, (f2 b hb).2.2.2.2.2⟩, ?_, ?_, pn⟩
        · obtain ⟨m, hm, _⟩ := I4.loc
          exact ⟨m, hm⟩
        · refine I.fpOk (by rw [hD]; exact hCle) ?_
          rw [upd_ne (Ne.symm hDC)]
          exact I4.free
      · refine thn (T.item X' rfl rfl rfl hc i _ s3 σ3 H3 _ I3 fpk st3 go) fun r s4 ⟨u, hr, h4⟩ => ?_
        subst hr
        show wpAny _ _ (letOwnedTupleGo tg (.ref it) u) _ _ s4
        refine thn h4 fun _ s5 ⟨x, H5, I5, r5, y5, st5, fr5⟩ => ?_
        obtain ⟨g, tt, te, hg, ht, he, hq⟩ := step x H5 y5 cl C s2 H2 fp
        have fpk5 := fpok (pl := [(D, { cls := .type "list", dict := none, data := .seq its.toArray nn })]) fr5 (fun b hb p hp z => by
          rw [List.mem_singleton.mp hp] at z
          exact DnotFp ((show D = b from z) ▸ hb))
        have I5' := I5.pinned fpk5 (T.obj _ _ st5)
        refine thn (hg _ s5 σ3 H5 x u _ I5' r5 (hq σ3 ks)) fun _ s6 ⟨σ6, H6, I6, ks6, q6⟩ => ?_
        refine thn (ht _ s6 σ6 H6 _ I6 q6) fun b s7 ⟨H7, I7, q7⟩ => ?_
        have stK : ∀ {s' : Shared} {H' : Hp} {σ' : St}, Inv X' ([(D, { cls := .type "list", dict := none, data := .seq its.toArray nn })] ++ pinsAt fp s5.heap) σ' H' s' → tn (i + 1) s'.heap ∧ (∀ b ∈ fp, H' b = none) := fun {s' H' σ'} I' => by
          refine ⟨T.keep _ _ _ st5 fun b hb o e => (I'.pin (b, o) (List.mem_append_right _ (List.mem_append_right _ (mem_pinsAt hb e)))).1, fun b hb => ?_⟩
          obtain ⟨o, e, d⟩ := T.obj _ _ st5 b hb
          exact (I'.pin (b, o) (List.mem_append_right _ (List.mem_append_right _ (mem_pinsAt hb e)))).2.1
        cases b with
        | false =>
          rw [if_neg Bool.false_ne_true] at q7 ⊢
          obtain ⟨a1, a2⟩ := stK I7
          exact ⟨n + 1 - (i + 1), by omega, i + 1, ys, its, nn, σ6, H7, rfl, hlt, hR2 _ q7, a1, a2, r3, ks6, I7.unpinned⟩
        | true =>
          rw [if_pos rfl] at q7 ⊢
          refine thn (he _ s7 σ6 H7 _ I7 q7) fun yv s8 ⟨y, H8, I8, r8, q8⟩ => ?_
          obtain ⟨a1, a2⟩ := stK I8
          have I8u := I8.unpinned
          obtain ⟨pe, pn, p1, p2, p3⟩ := I8u.pin (D, { cls := .type "list", dict := none, data := .seq its.toArray nn }) (by show _ ∈ [] ++ _; simp)
          have hl8 : s8.heap.IsList D its.toArray := PySem.IsL.isList pe
          have isz : its.length ≤ sizeLine := by rw [← r3.length]; exact Nat.le_trans hyl (Nat.le_trans hin hn)
          refine append_plain pe (by simpa using isz) fun nn' h9 e9 hs9 => ?_
          have I9 : Inv X' [] σ6 H8 { s8 with heap := h9, toks := s8.toks } := by
            refine Inv.turned (pins := []) (it := D) (t' := s8.toks) (I8u.pins_of (pins' := []) fun p hp => absurd hp (by simp)) (fun b o hb e => (hs9.2 b hb).trans e) pn hDC (.inr (by show s2.heap.objs.size ≤ D; rw [hD]; exact Nat.le_refl _)) (fun x c e z => ?_) fun p hp => absurd hp (by show ¬ p ∈ ([] ++ [] : List (Addr × Obj)); simp)
            obtain ⟨v, o, ho, hd⟩ := I.cell x c (hcl1 x c e)
            have := Heap.lt_size ho
            rw [hD, z] at this
            exact Nat.lt_irrefl _ this
          refine ⟨n + 1 - (i + 1), by omega, i + 1, ys ++ [y], its ++ [yv], nn', σ6, H8, rfl, hlt, hR1 _ _ q8, ?_, a2, Vals.append r3 (.cons r8 .nil), ks6, ?_⟩
          · exact T.keep _ _ _ a1 fun b hb o e => (hs9.2 b (fun z => DnotFp (z ▸ hb))).trans e
          · refine I9.pins_of fun p hp => ?_
            obtain rfl := List.mem_singleton.mp hp
            exact ⟨by simpa using e9, pn, p1, p2, by simp⟩
    · refine (I0 tk).pins_of fun p hp => ?_
      obtain rfl := List.mem_singleton.mp hp
      exact ⟨haccO, freeD, hDC, DnotFs, by simp⟩
  exact codeAny_compStart_list (loop _) (T.self X.A 0 _ _ _ st1 (loop _))

/-- the look at a comprehension's names -/
def compOk (names : List (Str × NameKind)) (outer : Str → Option NameKind) : Bool :=
  names.all (fun y => y.2 != .cell) && names.all (fun y => y.2 != .local || names.lookup y.1 == some .local) && names.all (fun y => y.2 != .free || outer y.1 == some .cell || outer y.1 == some .free)
theorem compOk.cell {names : List (Str × NameKind)} {outer : Str → Option NameKind} (h : compOk names outer = true) : ∀ y ∈ names, y.2 ≠ .cell := fun y hy => by
  unfold compOk at h
  simp only [Bool.and_eq_true, List.all_eq_true] at h
  simpa using h.1.1 y hy
theorem compOk.names {names : List (Str × NameKind)} {outer : Str → Option NameKind} (h : compOk names outer = true) : ∀ y ∈ names, y.2 = .local → names.lookup y.1 = some .local := fun y hy e => by
  unfold compOk at h
  simp only [Bool.and_eq_true, List.all_eq_true] at h
  have := h.1.2 y hy
  rw [e] at this
  simpa using this
theorem compOk.free {names : List (Str × NameKind)} {outer : Str → Option NameKind} (h : compOk names outer = true) : ∀ y ∈ names, y.2 = .free → outer y.1 = some .cell ∨ outer y.1 = some .free := fun y hy e => by
  unfold compOk at h
  simp only [Bool.and_eq_true, List.all_eq_true] at h
  have := h.2 y hy
  rw [e] at this
  simpa using this
/-- [elt for tg in iter if ..] -/
theorem pe_comp {N : List Str} {js : List (Option Nat)} {scope : Scope} {tg elt iter : Expr} {ifs : List Expr} {pos : Pos} {wi : TI} (hc : X.calm = true) (caps : Caps X scope N js) (hok : compOk scope.names X.env.kindOf = true)
    (hi : PI X tg iter wi) (hkind : scope.kind = .function := by rfl) (hs : ∀ x, foldedSetIterable iter X.env x = pure x := by intro _; rfl) :
    PE X (.ListComp elt [⟨tg, iter, ifs, 0⟩] scope pos) (tComp X N scope js tg elt ifs wi) := by
  intro pins s σ H Q I h
  obtain ⟨cl, e1, e2, e3⟩ := closure_of (env := X.env) (scope := scope) fun x hx hf => I.ok.has _ (compOk.free hok x hx hf)
  rw [eval_ListComp]
  refine wpAny_comprehension_free (use := none) rfl hs e1 hkind (compOk.names hok) (thn (hi pins s σ H _ I h) fun v s1 h1 => thn h1 fun itv s2 h2 => ?_)
  obtain ⟨it, fp, tn, J, H2, rfl, I2, T, st2, f2, n, W, hn, w0, turn⟩ := h2
  refine comp_block (RR := fun acc C => compPost (model X.prog X.w) X.A X.xe none (EP X pins σ Q) acc C) (Q := Q) hc caps hkind (compOk.cell hok) e2 e3 I2 T st2 f2 n W hn w0 turn ?_
  intro D C ys H' s' ce q
  obtain ⟨m, hm⟩ := ce.ns
  exact ⟨m, hm, fun h' hs' => ⟨.ref D, _, CompEnd.gone (D := D) (ys := ys) (H' := H') ce.inv ce.fp hs', rfl, q⟩⟩

/-- name = [elt for tg in iter if ..], where the stores are exchanged -/
theorem ps_setComp {i : Nat} {x : Str} {N : List Str} {js : List (Option Nat)} {scope : Scope} {tg elt iter : Expr} {ifs : List Expr} {pos pos' spos : Pos} {wi : TI} (hN : X.N.Nodup) (hi' : X.N[i]? = some x) (hx : Loc X.env.scope x)
    (hsw : swapsWith (.ListComp elt [⟨tg, iter, ifs, 0⟩] scope pos) (some (.Name x pos')) spos.line X.env = pure true) (hc : X.calm = true) (caps : Caps X scope N js) (hok : compOk scope.names X.env.kindOf = true)
    (hi : PI X tg iter wi) (hkind : scope.kind = .function := by rfl) (hf : X.fn x = true ∨ X.env.scope.names.lookup x = some .local := by first | exact .inl rfl | exact .inr rfl | assumption) (hs : ∀ x, foldedSetIterable iter X.env x = pure x := by intro _; rfl) :
    PS X (.Assign [.Name x pos'] (.ListComp elt [⟨tg, iter, ifs, 0⟩] scope pos) spos) (tAsg (tComp X N scope js tg elt ifs wi) (gName i)) := by
  intro pins s σ H D I h
  obtain ⟨cl, e1, e2, e3⟩ := closure_of (env := X.env) (scope := scope) fun x hx hf => I.ok.has _ (compOk.free hok x hx hf)
  rw [exec_Assign_Name_used _ _ _ _ hsw]
  refine wpAny_bind (wpAny_standAt (wpAny_bind ?_))
  show wpAny _ X.A (do let _ ← comprehension (.ListComp elt [⟨tg, iter, ifs, 0⟩] scope pos) scope X.env _ (newList []) false (eval iter X.env) (some (assign (.Name x pos') X.env))) _ _ s
  refine wpAny_bind (wpAny_mono (wpAny_comprehension_free (use := some (assign (.Name x pos') X.env)) (Q := fun _ s' => SP X pins D .next s') rfl hs e1 hkind (compOk.names hok)
    (thn (hi pins s σ H _ I h) fun v s1 h1 => thn h1 fun itv s2 h2 => ?_)) (fun _ s' hq => wpAny_pure (wpAny_pure hq)) fun _ _ e => e)
  obtain ⟨it, fp, tn, J, H2, rfl, I2, T, st2, f2, n, W, hn, w0, turn⟩ := h2
  refine comp_block (RR := fun acc C => compPost (model X.prog X.w) X.A X.xe (some (assign (.Name x pos') X.env)) (fun _ s' => SP X pins D .next s') acc C) (Q := fun v H' => D.nx (σ.set i (some v)) H') hc caps hkind (compOk.cell hok) e2 e3 I2 T st2 f2 n W hn w0 turn ?_
  intro L C ys H' s' ce q
  show wpAny _ X.A (assign (.Name x pos') X.env (.ref L)) _ _ s'
  refine wpAny_assign_Name (store_ok2 (v := .ref L) ce.inv hN hi' hx rfl (fun s'' I'' sb => ?_) hf)
  obtain ⟨a, hsa, ha⟩ := sb
  have hCa : C ≠ a := by
    rcases ha with z | z
    · rw [z]; exact ce.fp.2.1
    · exact fun z' => ce.fp.2.2.2.2.1 x a z z'.symm
  obtain ⟨m, hm⟩ := ce.ns
  exact ⟨m, hm.sameBut hsa hCa, fun h' hs' => ⟨_, _, CompEnd.gone (D := L) (ys := ys) (H' := H') I'' ce.fp hs', q⟩⟩
end

/-! ### the forms one uses -/
/-- the way on behind an item -/
def compR (W : Nat → List V → Hp → Prop) (i : Nat) (ys : List V) : Option V → Hp → Prop
  | some y, H => W (i + 1) (ys ++ [y]) H
  | none, H => W (i + 1) ys H
theorem comp_of {X : Cx} {J : It} {N : List Str} {scope : Scope} {js : List (Option Nat)} {tg elt : Expr} {ifs : List Expr} {σ : St} {Q : VK} {n : Nat} {H1 : Hp} (W : Nat → List V → Hp → Prop) (hz : n ≤ sizeLine) (w0 : W 0 [] H1)
    (hl : ∀ i ys H, i ≤ n → W i ys H → ys.length ≤ i) (hgo : ∀ i ys H, i < n → W i ys H → J.go i H) (hst : ∀ ys H, W n ys H → J.stop n H)
    (step : ∀ i x ys H H', i < n → W i ys H → J.yld i H x H' → BlockOk X N scope js tg elt ifs σ x H' (compR W i ys))
    (done : ∀ ys H, W n ys H → ∀ p, H p = none → Q (.ref p) (upd H p (.lst ys))) :
    compK X N scope js tg elt ifs σ Q J H1 := by
  refine ⟨n, fun i ys H => i ≤ n ∧ W i ys H, hz, ⟨Nat.zero_le _, w0⟩, ?_⟩
  rintro i ys H ⟨hi, w⟩
  refine ⟨hl i ys H hi w, ?_⟩
  by_cases hlt : i < n
  · exact .inr ⟨hgo i ys H hlt w, hlt, compR W i ys, fun y H2 q => ⟨hlt, q⟩, fun H2 q => ⟨hlt, q⟩, fun x H' y => step i x ys H H' hlt w y⟩
  · have e : i = n := by omega
    subst e
    exact .inl ⟨hst ys H w, done ys H w⟩
/-- over a list that stays: W by the turn and the list so far -/
theorem comp_list {X : Cx} {K : PySem.W.Frag} {N : List Str} {scope : Scope} {js : List (Option Nat)} {tg elt : Expr} {ifs : List Expr} {σ : St} {Q : VK} {a : Addr} {xs : List V} {H1 : Hp} (W : Nat → List V → Hp → Prop) (hz : xs.length ≤ sizeLine) (w0 : W 0 [] H1)
    (hl : ∀ i ys H, i ≤ xs.length → W i ys H → ys.length ≤ i ∧ SqL K H a xs)
    (step : ∀ i x ys H, xs[i]? = some x → W i ys H → BlockOk X N scope js tg elt ifs σ x H (compR W i ys))
    (done : ∀ ys H, W xs.length ys H → ∀ p, H p = none → Q (.ref p) (upd H p (.lst ys))) :
    compK X N scope js tg elt ifs σ Q (Itl K a) H1 :=
  comp_of W hz w0 (fun i ys H h w => (hl i ys H h w).1) (fun i ys H h w => ⟨xs, xs[i], (hl i ys H (Nat.le_of_lt h) w).2, by simp [h]⟩) (fun ys H w => ⟨xs, (hl _ ys H (Nat.le_refl _) w).2, Nat.le_refl _⟩)
    (fun i x ys H H' h w y => by
      obtain ⟨e, y⟩ := y
      subst e
      exact step i x ys _ (y xs (hl i ys _ (Nat.le_of_lt h) w).2) w) done
theorem comp_tup {X : Cx} {K : PySem.W.Frag} {N : List Str} {scope : Scope} {js : List (Option Nat)} {tg elt : Expr} {ifs : List Expr} {σ : St} {Q : VK} {a : Addr} {xs : List V} {H1 : Hp} (W : Nat → List V → Hp → Prop) (hz : xs.length ≤ sizeLine) (w0 : W 0 [] H1)
    (hl : ∀ i ys H, i ≤ xs.length → W i ys H → ys.length ≤ i ∧ SqT K H a xs)
    (step : ∀ i x ys H, xs[i]? = some x → W i ys H → BlockOk X N scope js tg elt ifs σ x H (compR W i ys))
    (done : ∀ ys H, W xs.length ys H → ∀ p, H p = none → Q (.ref p) (upd H p (.lst ys))) :
    compK X N scope js tg elt ifs σ Q (Itt K a) H1 :=
  comp_of W hz w0 (fun i ys H h w => (hl i ys H h w).1) (fun i ys H h w => ⟨xs, xs[i], (hl i ys H (Nat.le_of_lt h) w).2, by simp [h]⟩) (fun ys H w => ⟨xs, (hl _ ys H (Nat.le_refl _) w).2, Nat.le_refl _⟩)
    (fun i x ys H H' h w y => by
      obtain ⟨e, y⟩ := y
      subst e
      exact step i x ys _ (y xs (hl i ys _ (Nat.le_of_lt h) w).2) w) done
theorem comp_range {X : Cx} {lo : Int} {n : Nat} {N : List Str} {scope : Scope} {js : List (Option Nat)} {tg elt : Expr} {ifs : List Expr} {σ : St} {Q : VK} {H1 : Hp} (W : Nat → List V → Hp → Prop) (hz : n ≤ sizeLine) (w0 : W 0 [] H1)
    (hl : ∀ i ys H, i ≤ n → W i ys H → ys.length ≤ i)
    (step : ∀ i ys H, i < n → W i ys H → BlockOk X N scope js tg elt ifs σ (.int (lo + i)) H (compR W i ys))
    (done : ∀ ys H, W n ys H → ∀ p, H p = none → Q (.ref p) (upd H p (.lst ys))) :
    compK X N scope js tg elt ifs σ Q (Itr lo n) H1 :=
  comp_of W hz w0 hl (fun i ys H h w => h) (fun ys H w => Nat.le_refl _)
    (fun i x ys H H' h w y => by
      obtain ⟨e, y⟩ := y
      subst e y
      exact step i ys _ h w) done
end L2
namespace L2
open PySem PySem.Spec PyProof.Rows

/-! ### data in the abstract heap -/
mutual
inductive DatV (K : PySem.W.Frag) (H : Hp) : V → PyData → Prop
  | non : DatV K H .non .none
  | bl (b : Bool) : DatV K H (.bl b) (.bool b)
  | int (i : Int) : DatV K H (.int i) (.int i)
  | str (x : Str) : DatV K H (.str x) (.str x)
  | lst {a : Addr} {xs : List V} {ds : List PyData} : SqL K H a xs → DatVs K H xs ds → DatV K H (.ref a) (.list ds)
  | tup {a : Addr} {xs : List V} {ds : List PyData} : SqT K H a xs → DatVs K H xs ds → DatV K H (.ref a) (.tuple ds)
inductive DatVs (K : PySem.W.Frag) (H : Hp) : List V → List PyData → Prop
  | nil : DatVs K H [] []
  | cons {x : V} {d : PyData} {xs : List V} {ds : List PyData} : DatV K H x d → DatVs K H xs ds → DatVs K H (x :: xs) (d :: ds)
end
section
variable {X : Cx} {pins : List (Addr × Obj)} {σ : St} {H : Hp} {s : Shared}
mutual
theorem DatV.reads (I : Inv X pins σ H s) : ∀ {x : V} {d : PyData} {u : Value}, DatV X.K H x d → RelV x u → ∃ as, Reads s.heap u d as
  | _, _, _, .non, r => by cases r; exact ⟨_, .none⟩
  | _, _, _, .bl b, r => by cases r; exact ⟨_, .bool b⟩
  | _, _, _, .int i, r => by obtain ⟨t, rfl⟩ := r; exact ⟨_, .int i t⟩
  | _, _, _, .str x, r => by obtain ⟨t, rfl⟩ := r; exact ⟨_, .str x t⟩
  | _, _, _, .lst h ds, r => by
    cases r
    obtain ⟨its, rv, ⟨o, e, c, n, d⟩, hz⟩ : ∃ its : List Value, Vals _ its ∧ s.heap.IsList _ its.toArray ∧ _ := by
      obtain ⟨its, rv, p, hz⟩ := I.list h
      exact ⟨its, rv, p.isList, hz⟩
    obtain ⟨as, q⟩ := DatVs.reads I ds rv
    exact ⟨_, .list e c d (by simpa using q)⟩
  | _, _, _, .tup h ds, r => by
    cases r
    obtain ⟨its, rv, p, hz⟩ := I.tuple h
    obtain ⟨o, e, c, n, d⟩ := p
    obtain ⟨as, q⟩ := DatVs.reads I ds rv
    exact ⟨_, .tuple e c d (by simpa using q)⟩
theorem DatVs.reads (I : Inv X pins σ H s) : ∀ {xs : List V} {ds : List PyData} {us : List Value}, DatVs X.K H xs ds → Vals xs us → ∃ as, ReadsAll s.heap us ds as
  | _, _, _, .nil, r => by cases r; exact ⟨_, .nil⟩
  | _, _, _, .cons h t, r => by
    cases r with
    | cons r1 r2 =>
      obtain ⟨as, q⟩ := DatV.reads I h r1
      obtain ⟨bs, q2⟩ := DatVs.reads I t r2
      exact ⟨_, .cons q q2⟩
end
/-- == , != of data -/
theorem op_eqD (hu : X.A.units + 64 < cLine) : OpR X (compareOp .Eq) (fun x y H Q => ∃ d e, DatV X.K H x d ∧ DatV X.K H y e ∧ SeqAt.shaped d = true ∧ SeqAt.shaped e = true ∧ Q (.bl (PyData.eqv d e)) H) := by
  intro pins s σ H x y u v Q I rx ry h
  obtain ⟨d, e, hx, hy, sd, se, q⟩ := h
  obtain ⟨as, r1⟩ := hx.reads I rx
  obtain ⟨bs, r2⟩ := hy.reads I ry
  exact eq_dataH r1 r2 sd se hu ⟨.bl _, H, I, rfl, q⟩
theorem op_neD (hu : X.A.units + 64 < cLine) : OpR X (compareOp .NotEq) (fun x y H Q => ∃ d e, DatV X.K H x d ∧ DatV X.K H y e ∧ SeqAt.shaped d = true ∧ SeqAt.shaped e = true ∧ Q (.bl (!PyData.eqv d e)) H) := by
  intro pins s σ H x y u v Q I rx ry h
  obtain ⟨d, e, hx, hy, sd, se, q⟩ := h
  obtain ⟨as, r1⟩ := hx.reads I rx
  obtain ⟨bs, r2⟩ := hy.reads I ry
  exact ne_dataH r1 r2 sd se hu ⟨.bl _, H, I, rfl, q⟩
end
/-- data stays when more is tracked -/
theorem SqL.same {K : PySem.W.Frag} {H H' : Hp} {a : Addr} {xs : List V} (e : Same H H') (h : SqL K H a xs) : SqL K H' a xs := Same.seq e h
theorem SqT.same {K : PySem.W.Frag} {H H' : Hp} {a : Addr} {xs : List V} (e : Same H H') (h : SqT K H a xs) : SqT K H' a xs := by
  rcases h with (h | ⟨o, h⟩) | h
  · exact .inl (.inl (e _ _ h))
  · exact .inl (.inr ⟨o, e _ _ h⟩)
  · exact .inr h
mutual
theorem DatV.same {K : PySem.W.Frag} {H H' : Hp} (e : Same H H') : ∀ {x : V} {d : PyData}, DatV K H x d → DatV K H' x d
  | _, _, .non => .non
  | _, _, .bl b => .bl b
  | _, _, .int i => .int i
  | _, _, .str x => .str x
  | _, _, .lst h ds => .lst (h.same e) (DatVs.same e ds)
  | _, _, .tup h ds => .tup (h.same e) (DatVs.same e ds)
theorem DatVs.same {K : PySem.W.Frag} {H H' : Hp} (e : Same H H') : ∀ {xs : List V} {ds : List PyData}, DatVs K H xs ds → DatVs K H' xs ds
  | _, _, .nil => .nil
  | _, _, .cons h t => .cons (DatV.same e h) (DatVs.same e t)
end
theorem Same.upd {H : Hp} {a : Addr} {o : HO} (h : H a = none) : Same H (upd H a o) := fun b u e => by rw [upd_ne (ne_of_none e h)]; exact e
theorem DatVs.length {K : PySem.W.Frag} {H : Hp} : ∀ {xs : List V} {ds : List PyData}, DatVs K H xs ds → xs.length = ds.length
  | _, _, .nil => rfl
  | _, _, .cons _ t => by simp [DatVs.length t]
theorem DatVs.append {K : PySem.W.Frag} {H : Hp} : ∀ {xs ys : List V} {ds es : List PyData}, DatVs K H xs ds → DatVs K H ys es → DatVs K H (xs ++ ys) (ds ++ es)
  | _, _, _, _, .nil, h => h
  | _, _, _, _, .cons a t, h => .cons a (DatVs.append t h)
theorem DatVs.get {K : PySem.W.Frag} {H : Hp} : ∀ {xs : List V} {ds : List PyData} {i : Nat} {x : V}, DatVs K H xs ds → xs[i]? = some x → ∃ d, ds[i]? = some d ∧ DatV K H x d
  | _, _, _, _, .nil, e => by simp at e
  | _, _, 0, _, .cons a t, e => by simp at e; subst e; exact ⟨_, by simp, a⟩
  | _, _, i + 1, x, .cons a t, e => by
    obtain ⟨d, h1, h2⟩ := DatVs.get (i := i) (x := x) t (by simpa using e)
    exact ⟨d, by simpa using h1, h2⟩
theorem DatVs.get' {K : PySem.W.Frag} {H : Hp} : ∀ {xs : List V} {ds : List PyData} {i : Nat} {d : PyData}, DatVs K H xs ds → ds[i]? = some d → ∃ x, xs[i]? = some x ∧ DatV K H x d
  | _, _, _, _, .nil, e => by simp at e
  | _, _, 0, _, .cons a t, e => by simp at e; subst e; exact ⟨_, by simp, a⟩
  | _, _, i + 1, x, .cons a t, e => by
    obtain ⟨d, h1, h2⟩ := DatVs.get' (i := i) (d := x) t (by simpa using e)
    exact ⟨d, by simpa using h1, h2⟩
theorem DatVs.drop {K : PySem.W.Frag} {H : Hp} : ∀ {xs : List V} {ds : List PyData} (n : Nat), DatVs K H xs ds → DatVs K H (xs.drop n) (ds.drop n)
  | _, _, 0, h => h
  | _, _, _ + 1, .nil => .nil
  | _, _, n + 1, .cons _ t => DatVs.drop n t
theorem DatVs.take {K : PySem.W.Frag} {H : Hp} : ∀ {xs : List V} {ds : List PyData} (n : Nat), DatVs K H xs ds → DatVs K H (xs.take n) (ds.take n)
  | _, _, 0, _ => .nil
  | _, _, _ + 1, .nil => .nil
  | _, _, n + 1, .cons a t => .cons a (DatVs.take n t)

/-! ### enumerate over a list -/
def Ite (K : PySem.W.Frag) (a : Addr) : It :=
  ⟨fun i H => ∃ xs x, SqL K H a xs ∧ xs[i]? = some x, fun i H x H' => ∃ p v, H p = none ∧ x = .ref p ∧ H' = upd H p (.tup [.int i, v]) ∧ ∀ xs, SqL K H a xs → xs[i]? = some v, fun i H => ∃ xs, SqL K H a xs ∧ xs.length ≤ i⟩
theorem turn_enum {P : Program} {w : World} {K : PySem.W.Frag} {es : List Expr} {k1} {tpos : Pos} (a e it : Addr) (hei : e ≠ it) : Turn P w K (.Tuple es k1 tpos) (Ite K a) [e, it] e (fun i h => (∃ old, IsEnum h e it i old) ∧ h.IsListIter it a i) where
  mem := by simp
  obj := fun i h st b hb => by
    obtain ⟨⟨old, s1⟩, o, e2, c, d⟩ := st
    rcases List.mem_cons.mp hb with z | z
    · subst z
      exact ⟨_, s1, fun v z => by
        have z' : Data.fields _ = Data.cell v := z
        cases z'⟩
    · obtain rfl : b = it := by simpa using z
      exact ⟨o, e2, fun v z => by rw [d] at z; cases z⟩
  keep := fun i h h' st k => by
    obtain ⟨⟨old, s1⟩, s2⟩ := st
    exact ⟨⟨old, k e (by simp) _ s1⟩, s2.at fun o q => k it (by simp) o q⟩
  item := by
    intro X hP hw hK hc i pins s σ H E I hf st hg
    subst hP hw hK
    obtain ⟨⟨old, s1⟩, s2⟩ := st
    obtain ⟨xs, x, hq, hx⟩ := hg
    obtain ⟨its, rv, p, hz⟩ := I.list hq
    obtain ⟨u, hu, ru⟩ := rv.get hx
    obtain ⟨f0, f1, f2, f3, f4, f5⟩ := hf e (by simp)
    obtain ⟨g0, g1, g2, g3, g4, g5⟩ := hf it (by simp)
    refine wpAny_pyNext_enum_item s1 s2 p.isList (x := u) (by simpa using hu) hei fun h' so si st hz' kp => ?_
    refine ⟨_, rfl, wpAny_letOwnedTupleGo_enum so fun h2 se sb => ?_⟩
    have ne1 : s.heap.objs.size ≠ e := Nat.ne_of_gt (Heap.lt_size s1)
    have hT2 : h2.get? s.heap.objs.size = some { cls := .type "tuple", data := .seq #[.int i s.toks, u] } := (sb.2 _ ne1).trans st
    have fT : H s.heap.objs.size = none := I.hok.fresh (Nat.le_refl _)
    -- the two records turn, then the tuple is tracked
    have kp2 : ∀ b o, b ≠ e → b ≠ it → s.heap.get? b = some o → h2.get? b = some o := fun b o h1 h2' q => (sb.2 b h1).trans (kp b o h1 h2' q)
    have hok2 : HOk X.prog X.w H h2 := fun b uu q => by
      refine (I.hok b uu q).stay (fun c v hc q' => kp2 c v ?_ ?_ q') (fun _ q => q) fun _ _ q => q
      · rcases hc with z | z
        · rw [z]; exact fun zz => by rw [zz, f0] at q; cases q
        · exact fun zz => by rw [zz, f0] at z; cases z
      · rcases hc with z | z
        · rw [z]; exact fun zz => by rw [zz, g0] at q; cases q
        · exact fun zz => by rw [zz, g0] at z; cases z
    have hokT : HOk X.prog X.w (upd H s.heap.objs.size (.tup [.int i, x])) h2 := HOk.track hok2 fT ⟨by show 2 ≤ sizeLine; decide, [.int i s.toks, u], .cons ⟨_, rfl⟩ (.cons ru .nil), ⟨_, hT2, rfl, _, rfl⟩⟩
    have ltT : ∀ b uu, H b = some uu → b ≠ s.heap.objs.size := fun b uu q => ne_of_none q fT
    have I2 : Inv X pins σ (upd H s.heap.objs.size (.tup [.int i, x])) { s with heap := h2, gens := s.gens, drawn := s.drawn, toks := s.toks + 1 } := by
      refine I.step (ch := [e, it]) (fun b hb => ?_) (fun b o _ _ hc q _ => kp2 b o (fun z => hc (by simp [z])) (fun z => hc (by simp [z])) q) (fun b o _ _ hc q _ => ⟨o.slots, kp2 b o (fun z => hc (by simp [z])) (fun z => hc (by simp [z])) q⟩)
        (fun b o _ q n => by rw [upd_ne (Nat.ne_of_lt (Heap.lt_size q))]; exact n) (fun b o hc q => ⟨o, kp2 b o (fun z => hc (by simp [z])) (fun z => hc (by simp [z])) q⟩) (fun b ys q => by rw [upd_ne (ltT b _ q)]; exact q) (fun b o uu q => by rw [upd_ne (ltT b _ q)]; exact q)
        (fun b ps q => ⟨#[], by rw [upd_ne (ltT b _ q), q]; simp⟩) (fun m hm => ?_) hokT I.bare
      · rcases List.mem_cons.mp hb with z | z
        · subst z; exact ⟨f3, f1, f4, f5⟩
        · obtain rfl : b = it := by simpa using z
          exact ⟨g3, g1, g4, g5⟩
      · obtain ⟨o, es', ep, ho, r⟩ := hm
        exact ⟨o, es', ep, kp2 _ o (Ne.symm f1) (Ne.symm g1) ho, r⟩
    refine ⟨.ref s.heap.objs.size, _, I2, rfl, ⟨_, x, fT, rfl, rfl, fun ys hy => by rw [I.list_inj hy hq]; exact hx⟩, ⟨⟨u, by simpa using se⟩, si.at fun o q => (sb.2 it hei.symm).trans q⟩, fun b hb => ?_⟩
    rcases List.mem_cons.mp hb with z | z
    · subst z; rw [upd_ne (Ne.symm ne1)]; exact f0
    · obtain rfl : b = it := by simpa using z
      obtain ⟨o, q, _⟩ := s2
      rw [upd_ne (Nat.ne_of_lt (Heap.lt_size q))]; exact g0
  done := by
    intro X hP hw hK hc i pins s σ H E I hf st hg
    subst hP hw hK
    obtain ⟨⟨old, s1⟩, s2⟩ := st
    obtain ⟨xs, hq, hx⟩ := hg
    obtain ⟨its, rv, p, hz⟩ := I.list hq
    obtain ⟨g0, g1, g2, g3, g4, g5⟩ := hf it (by simp)
    have hl := rv.length
    exact wpAny_pyNext_enum_end (I.ok.hd hc) s1 s2 p.isList (by simp; omega) fun h' eb => ⟨rfl, I.turned (t' := s.toks) (fun b o hb q => eb b o hb q) g0 g1 g3 g4 g5⟩
  self := fun _ _ _ _ _ st h => wpAny_pyIter_enum st.1.choose_spec h
def iEnum (K : PySem.W.Frag) (ta : TA) : TI := fun σ H R => ta σ H fun vs H1 => ∃ a, vs = [.ref a] ∧ (∃ xs, SqL K H1 a xs) ∧ R (Ite K a) H1
theorem pi_enum {X : Cx} {es : List Expr} {k1} {tpos : Pos} {a : Expr} {ta : TA} {p pos : Pos} (hg : Gl X "enumerate") (hm : X.mg "enumerate" = none) (ha : PA X [a] ta) (hs : starEach [a] X.env = [(false, eval a X.env)] := by rfl) :
    PI X (.Tuple es k1 tpos) (.Call (.Name "enumerate" p) [a] [] pos) (iEnum X.K ta) := by
  intro pins s σ H R I h
  refine Call_ (ld_blt I hg hm PyProof.Rows.boot_enumerate (PyProof.Rows.callWith_type1 (thn (ha pos pins s σ H _ I h) fun us s1 ⟨vs, H1, I1, r1, q1⟩ => ?_) hs rfl))
  obtain ⟨j, e, ⟨xs, hq⟩, q⟩ := q1
  subst e
  obtain ⟨u, rfl, ru⟩ := vals1 r1
  cases ru
  obtain ⟨its, rv, pl, hz⟩ := I1.list hq
  refine call_enumerate_list pl.isList fun h' se si hz' kp => ?_
  have I2 : Inv X pins σ H1 { s1 with heap := h' } := I1.kept (t' := s1.toks) kp
  refine wpAny_pyIter_enum se ?_
  refine ⟨s1.heap.objs.size + 1, [s1.heap.objs.size + 1, s1.heap.objs.size], _, _, H1, rfl, I2, turn_enum j _ _ (Nat.ne_of_gt (Nat.lt_succ_self _)), ⟨⟨_, se⟩, si⟩, fun b hb => ?_, q⟩
  rcases List.mem_cons.mp hb with z | z
  · subst z
    exact I1.fpOk (Nat.le_succ _) (I1.hok.fresh (Nat.le_succ _))
  · obtain rfl : b = s1.heap.objs.size := by simpa using z
    exact I1.fpOk (Nat.le_refl _) (I1.hok.fresh (Nat.le_refl _))
end L2
namespace SX
open PySem PySem.W
section
variable {prog : Program} {w : World} {A : Around} {E : Value → Shared → Prop} {h : Heap} {g : Array GenState} {d : Drawn} {t : Nat} {os : OsState} {K : Frag}
variable {nm q : Str} {C N : Addr} {bs bm bmB : List Value} {hdct : Bool} {sn : List Str} {sub : List Value} {ab : Bool} {col : Option Bool} {dd : Option Addr} {k0 k1 k2 k3 k5 : Option Value} {B newId initId : String}

/-- what the list of an exception's classes must have -/
structure BmOk (B : String) (bm : List Value) : Prop where
  hasB : bm.contains (.type B) = true
  hasBase : bm.contains (.type "BaseException") = true
  noAttr : bm.contains (.type "AttributeError") = false
  noName : bm.contains (.type "NameError") = false
theorem check_newX (F : ExcBaseFacts B newId initId bmB) (T : BmOk B bm) {M : Model} {rest : List Value} {Q : Unit → Shared → Prop} (hC : h.get? C = some (excClassObj nm q C N bs bm hdct sn sub ab col dd k0 k1 k2 k3 k5 newId))
    (hq : Q () ⟨h, g, d, t, os⟩) : wpAny M A (checkBuiltinCall newId ⟨.ref C :: rest, []⟩) Q E ⟨h, g, d, t, os⟩ := by
  have hcont : (Value.ref C :: bm).contains (.type B) = true := by rw [List.contains_cons, T.hasB, Bool.or_true]
  have hstar := F.noStar
  simp only [checkBuiltinCall, F.newKind, F.newSplit, F.newRow]
  repeat (first | refine wpAny_loadPart_at hC ?_ | (refine wpAny_isSubtype_exc hC ?_; rw [hcont]) | refine wpAny_staticBase_exc hC ?_ | refine wpAny_madeBy_exc hC ?_ | simp only [bne_self_eq_false, Bool.false_eq_true, if_false] | wp_step)
  exact hq
theorem exc_newX (F : ExcBaseFacts B newId initId bmB) (T : BmOk B bm) {R : Result → Shared → Prop} {rest : List Value} (hC : h.get? C = some (excClassObj nm q C N bs bm hdct sn sub ab col dd k0 k1 k2 k3 k5 newId))
    (hq : R (.ok (.ret (.ref (h.objs.size + 1)))) ⟨(h.push { cls := .type "tuple", data := .seq rest.toArray }).push
      { cls := .ref C, data := .fields #[.ref h.objs.size, .none, .none, .none, .bool false, .none] }, g, d, t, os⟩) (hrest : rest.length ≤ sizeLine) :
    codeAny (model prog w) A (.builtin newId ⟨.ref C :: rest, []⟩) R ⟨h, g, d, t, os⟩ := by
  have hends := F.ends
  have hcB : (Value.ref C :: bm).contains (.type B) = true := by rw [List.contains_cons, T.hasB, Bool.or_true]
  have hcA : (Value.ref C :: bm).contains (.type "AttributeError") = false := by rw [List.contains_cons, T.noAttr]; rfl
  have hcN : (Value.ref C :: bm).contains (.type "NameError") = false := by rw [List.contains_cons, T.noName]; rfl
  refine codeAny_builtinAt F.entry ?_
  unfold Builtin.«BaseException.__new__»
  refine wpAt_bind ?_
  show wpAt _ _ _ (stack >>= _) _ _ _
  refine wpAt_bind (wpAt_stack fun p below => wpAt_of_wpAny ?_)
  wp_walk
  refine wpAt_of_wpAny ?_
  rw [F.owner]
  repeat (first | with_reducible refine wpAny_madeHere_exc F.canon hC ?_ | with_reducible refine wpAny_loadPart_at hC ?_ | (with_reducible refine wpAny_isSubtype_exc hC ?_; first | rw [hcB] | rw [hcA] | rw [hcN]) | wp_step)
  show R _ _
  rw [Heap.size_push]
  exact hq
/-- C(..) of an exception class with an __init__ of its own -/
theorem exc_typeCall (F : ExcBaseFacts B newId initId bmB) (T : BmOk B bm) (X : K.In h) {rest : List Value} {fI : Addr} {Q : Fin → Shared → Prop}
    (hC : h.get? C = some (excClassObj nm q C N bs bm hdct sn sub ab col dd k0 k1 k2 k3 k5 newId)) (hi : findIn K (.ref C) "__init__" = some (some (.ref fI))) (hf : typeIn K (.ref fI) = some (.type "function"))
    (hq : ∀ h' e, Heap.MadeExcOf h h' e (.ref C) rest → h.objs.size ≤ e →
      wpAny (model prog w) A (call (.ref fI) (.ref e :: rest)) (fun r s' => r = .none ∧ Q (.done (.ret (.ref e))) s') E ⟨h', g, d, t, os⟩) (hrest : rest.length ≤ sizeLine) :
    wpAny (model prog w) A (Builtin.«type.__call__» ⟨.ref C :: rest, []⟩) Q E ⟨h, g, d, t, os⟩ := by
  repeat (first | with_reducible refine wpAny_loadPart_at hC ?_ | with_reducible refine wpAny_madeBy_exc hC ?_ | wp_step)
  refine codeAny_call_builtin_code (Code.quiet_builtin _ F.quiet) (check_newX F T hC ?_)
  refine exc_newX F T hC ?_ hrest
  show wpAny _ _ _ _ _ _
  have kp : ∀ b o, h.get? b = some o → ((h.push { cls := .type "tuple", data := .seq rest.toArray }).push { cls := .ref C, data := .fields #[.ref h.objs.size, .none, .none, .none, .bool false, .none] }).get? b = some o := fun b o e => Heap.get?_push_of_some _ (Heap.get?_push_of_some _ e)
  have hC₁ := kp _ _ hC
  have X₁ := X.keeps kp
  have hget : ((h.push { cls := .type "tuple", data := .seq rest.toArray }).push
      { cls := .ref C, data := .fields #[.ref h.objs.size, .none, .none, .none, .bool false, .none] }).get? (h.objs.size + 1) = some
      { cls := .ref C, data := .fields #[.ref h.objs.size, .none, .none, .none, .bool false, .none] } := by heap_get
  have hcC : (Value.ref C :: bm).contains (.ref C) = true := by simp
  unfold isInstance
  repeat (first | with_reducible refine wpAny_loadPart_at hget ?_ | (with_reducible refine wpAny_isSubtype_exc hC₁ ?_; rw [hcC]) | wp_step)
  show wpAny _ _ (typeLookup (.ref C) _) _ _ _
  refine (looks_findIn (M := model prog w) X₁ hi).at ?_
  refine wpAny_holding (wpAny_bind ?_)
  refine (bind_fn (M := model prog w) X₁ _ hf).at ?_
  refine wpAny_bind (wpAny_mono (hq _ (h.objs.size + 1) ⟨kp, Heap.get?_none_of_le (Nat.le_succ _), h.objs.size, hget, Heap.get?_none_of_le (Nat.le_refl _), ?_⟩ (Nat.le_succ _)) (fun r s' hr => ?_) fun _ _ x => x)
  · exact Heap.get?_push_of_some _ (Heap.get?_push_at rfl rfl)
  · obtain ⟨rfl, hQ⟩ := hr
    wp_walk
    exact hQ
theorem exc_call (F : ExcBaseFacts B newId initId bmB) (T : BmOk B bm) (X : K.In h) {rest : List Value} {fI : Addr} {Q : Value → Shared → Prop}
    (hC : h.get? C = some (excClassObj nm q C N bs bm hdct sn sub ab col dd k0 k1 k2 k3 k5 newId)) (hi : findIn K (.ref C) "__init__" = some (some (.ref fI))) (hf : typeIn K (.ref fI) = some (.type "function"))
    (hq : ∀ h' e, Heap.MadeExcOf h h' e (.ref C) rest → h.objs.size ≤ e →
      wpAny (model prog w) (A.under (.builtin "type.__call__" ⟨.ref C :: rest, []⟩)) (call (.ref fI) (.ref e :: rest)) (fun r s' => r = .none ∧ Q (.ref e) s') E ⟨h', g, d, t, os⟩) (hrest : rest.length ≤ sizeLine) :
    wpAny (model prog w) A (call (.ref C) rest) Q E ⟨h, g, d, t, os⟩ := by
  have f1 := tc_lookup
  have f2 := tc_bind (.ref C)
  have hT : (⟨h, g, d, t, os⟩ : Shared).TypeIs (.ref C) "type" := ⟨_, hC, rfl⟩
  refine wpAny_call (codeAny_of_tree ?_)
  show wpAny _ _ (callAny (.ref C) _) _ _ _
  repeat (any_goals (first | assumption | with_reducible refine wpAny_loadPart_at hC ?_ | wp_step))
  refine ⟨rfl, ?_⟩
  refine codeAny_call_builtin_at (Code.quiet_builtin _ (by decide +kernel)) entry_typeCall (wpAny_check_type_call_sub hC (exc_typeCall F T X hC hi hf (fun h' e hm hle => ?_) hrest))
  exact hq h' e hm hle
/-- raise of an instance that was made -/
theorem raise_made {M : Model} {env : Env} {s : Shared} {x : Sem Value} {Q : Flow → Shared → Prop} (T : BmOk B bm) (hh : A.handled = none)
    (hx : wpAny M A x (fun v s₁ => ∃ e od vs, v = .ref e ∧ s₁.heap.get? C = some (excClassObj nm q C N bs bm hdct sn sub ab col dd k0 k1 k2 k3 k5 newId) ∧
      s₁.heap.get? e = some { cls := .ref C, dict := od, data := .fields vs } ∧ vs[1]? = some .none ∧ E (.ref e) s₁) E s) :
    wpAny M A (raiseStmt env (some x) none) Q E s := by
  have hcB : (Value.ref C :: bm).contains (.type "BaseException") = true := by rw [List.contains_cons, T.hasBase, Bool.or_true]
  unfold raiseStmt
  refine wpAny_bind (wpAny_mono hx (fun v s₁ h₁ => ?_) fun _ _ x => x)
  obtain ⟨e, od, vs, rfl, hC, he, h1, hE⟩ := h₁
  obtain ⟨hp, g, d, tk, os⟩ := s₁
  repeat (first | with_reducible refine wpAny_loadPart_at he ?_ | with_reducible refine wpAny_loadPart_at hC ?_ | (with_reducible refine wpAny_isSubtype_exc hC ?_; rw [hcB]) | (with_reducible refine wpAny_field he rfl h1 ?_) | wp_step)
  exact wpAny_raiseNew_none hh hE
end
end SX
namespace SX
open PySem PySem.W PySem.Builtin PySem.Builtin.ObjectAttr

abbrev vmro : List Value := [.type "ValueError", .type "Exception", .type "BaseException", .type "object"]
/-- an error class of the text, straight under another (W) that stands under ValueError -/
structure ExcC (K : Frag) (W C : Addr) : Prop where
  lk : ∃ nm q N bs sn sub ab col dd k0 k1 k2 k3 k5, K.lookup C = some (excClassObj nm q C N bs (.ref W :: vmro) true sn sub ab col dd k0 k1 k2 k3 k5 "ValueError.__new__")
  sa : findIn K (.ref C) "__setattr__" = some (some (.builtin "object.__setattr__"))
  ga : findIn K (.ref C) "__getattribute__" = some (some (.builtin "BaseException.__getattribute__"))
  gh : findIn K (.ref C) "__getattr__" = some none
  cl : findIn K (.ref C) "__class__" = some (some (.builtin "object.__class__"))
  clg : specialIn K (.builtin "object.__class__") "__get__" = some (some (.builtin "getset_descriptor.__get__"))
  clt : takesIn K (.builtin "object.__class__") = some true
  kp : keepIn K (.ref C) = true
theorem bmOk (W : Addr) : BmOk "ValueError" (.ref W :: vmro) := ⟨by simp [vmro], by simp [vmro], by simp [vmro], by simp [vmro]⟩
theorem passes (self : Value) (C W : Addr) : refuseLoop self "__setattr__" (.ref C :: .ref W :: vmro) = pure () := by
  rw [refuseLoop_ref, refuseLoop_ref]
  exact PySem.F.store_ValueError.passes self
theorem ExcC.cls {K : Frag} {W C : Addr} (c : ExcC K W C) : ∃ cd : ClassData, clsIn K C = some cd ∧ cd.hasDict = true ∧ cd.mro = .ref C :: .ref W :: vmro := by
  obtain ⟨nm, q, N, bs, sn, sub, ab, col, dd, k0, k1, k2, k3, k5, e⟩ := c.lk
  exact ⟨_, by unfold clsIn; rw [e], rfl, rfl⟩
theorem ExcC.mro {K : Frag} {W C : Addr} (c : ExcC K W C) (b : Value) : mroIn K C b = some ((Value.ref C :: .ref W :: vmro).contains b) := by
  obtain ⟨cd, h1, _, h3⟩ := c.cls
  unfold mroIn
  rw [h1, Option.bind_some, h3]
  rfl

section
variable {prog : Program} {w : World} {A : Around} {E : Value → Shared → Prop} {s : Shared} {K : Frag} {W C x : Addr} {name : Str} {v : Value} {vs : Array Value}
/-- object.__setattr__ of an exception, up to its own dict -/
theorem osa_exc {od : Option Addr} {o : Option Obj} {tk : Tok} {R : Result → Shared → Prop} (X : K.In s.heap) (c : ExcC K W C) (na : findIn K (.ref C) name = some none) (I : InstAt s.heap x ⟨.ref C, od, .fields vs, #[]⟩ C o)
    (h : wpAny (model prog w) A.in1 (storeInOwnDict (.ref x) (.ref C) (.str name tk) name v false)
      (fun fin s' => match fin with | .done f => R (.ok f) s' | .again c' => c'.quiet = true ∧ codeAny (model prog w) A c' R s') (fun e s' => R (.error e) s') s) :
    codeAny (model prog w) A (.call (.builtin "object.__setattr__") ⟨[.ref x, .str name tk, v], []⟩) R s := by
  have SF := PySem.F.store_object
  obtain ⟨cd, hc, hdct, hmro⟩ := c.cls
  have sub : Looks (model prog w) s.heap (isInstance (.ref x) (.type "object")) true := I.type.andThen (looks_mroIn X (by rw [c.mro]; simp [vmro]))
  refine codeAny_call_builtin SF.slot.plain SF.entry (@check_slot (model prog w) _ _ s "object.__setattr__" "object" "__setattr__" (.ref x) [.str name tk, v] [] _ SF.kind SF.split sub (SF.args (.ref x) (.str name tk) v) ?_)
  have hm : Looks (model prog w) s.heap (mroOf (.ref C)) cd.mro := (looks_clsIn X hc).andThen .now
  rw [osa_eq, refuse_eq]
  refine wpAny_bind (wpAny_bind (I.type.here (wpAny_bind (hm.here ?_))))
  rw [hmro, passes]
  exact wpAny_pure (wpAny_bind (I.type.here (wpAny_bind ((looks_findIn X na).here (wpAny_bind (wpAny_pure h))))))
/-- the first attribute that is stored: its dict is made -/
theorem set_first {Q : Unit → Shared → Prop} (X : K.In s.heap) (c : ExcC K W C) (na : findIn K (.ref C) name = some none) (hx : s.heap.get? x = some ⟨.ref C, none, .fields vs, #[]⟩)
    (h : ∀ h' tk', h'.get? x = some ⟨.ref C, some s.heap.objs.size, .fields vs, #[]⟩ → h'.Ns1 s.heap.objs.size (fun y => if y = name then some v else none) → (∀ b o, b ≠ x → s.heap.get? b = some o → h'.get? b = some o) → Q () { s with heap := h', toks := tk' }) :
    wpAny (model prog w) A (setAttr (.ref x) name v) Q E s := by
  have I : InstAt s.heap x ⟨.ref C, none, .fields vs, #[]⟩ C none := ⟨hx, rfl, rfl, trivial⟩
  refine set_plain X I c.sa (osa_exc (s := { s with toks := s.toks + 1 }) X c na I ?_)
  obtain ⟨cd, hc, hdct, hmro⟩ := c.cls
  obtain ⟨hp, g, d, t, os⟩ := s
  have hx : hp.get? x = some ⟨.ref C, none, .fields vs, #[]⟩ := hx
  unfold storeInOwnDict
  refine wpAny_bind (wpAny_pure ?_)
  show wpAny _ _ (ownDictForStores (.ref x) >>= _) _ _ _
  refine wpAny_bind ?_
  show wpAny _ _ (instanceDict x true) _ _ _
  unfold instanceDict
  refine wpAny_bind (wpAny_loadPart hx (wpAny_bind ((looks_clsIn (M := model prog w) X hc).at ?_)))
  rw [hdct]
  have hx₁ : (hp.push { cls := .type "dict", data := .dict #[] }).get? x = some ⟨.ref C, none, .fields vs, #[]⟩ := Heap.get?_push_of_some _ hx
  have hxs : x ≠ hp.objs.size := Nat.ne_of_lt (Heap.lt_size hx)
  refine wpAny_bind (wpAny_alloc' ?_)
  refine wpAny_bind (wpAny_update' hx₁ ?_)
  refine wpAny_pure ?_
  have hgd : ((hp.push { cls := .type "dict", data := .dict #[] }).update x fun o => { cls := o.cls, dict := some hp.objs.size, data := o.data, slots := o.slots }).get? hp.objs.size
      = some { cls := .type "dict", data := .dict #[] } :=
    (Heap.get?_update_ne _ _ _ _ hxs.symm).trans (Heap.get?_push_at rfl rfl)
  have hnd : ((hp.push { cls := .type "dict", data := .dict #[] }).update x fun o => { cls := o.cls, dict := some hp.objs.size, data := o.data, slots := o.slots }).Ns hp.objs.size (fun _ => none) :=
    ⟨_, #[], _, hgd, rfl, fun e he => absurd he (by simp), fun _ => rfl⟩
  show wpAny _ _ (storeInDict hp.objs.size (.str name t) name v) _ _ _
  unfold storeInDict newKeyGuard
  refine wpAny_bind (wpAny_pure (wpAny_bind (wpAny_nsSet1 (Heap.Ns1.of_empty hnd) fun h' hn' hs => ?_)))
  obtain ⟨oD, esD, epD, hoD, hdD, hcD⟩ := hn'.count (Within.cons name v Within.nil)
  refine wpAny_bind (wpAny_lookBehind hoD (by rw [hdD]; exact pastItsLine_dict (Nat.le_trans hcD (by rw [List.length_cons, List.length_nil, sizeLine_eq]; omega))) ?_)
  refine wpAny_pure (h h' _ ?_ hn' fun b o hbx hb => ?_)
  · exact (hs.2 x hxs).trans (Heap.get?_update_self _ hx₁ rfl)
  · exact (hs.2 b (Nat.ne_of_lt (Heap.lt_size hb))).trans ((Heap.get?_update_ne _ _ _ _ hbx).trans (Heap.get?_push_of_some _ hb))
/-- another one -/
theorem set_next {Q : Unit → Shared → Prop} {dx : Addr} {mA : Str → Option Value} {ns : List Str} (X : K.In s.heap) (c : ExcC K W C) (na : findIn K (.ref C) name = some none) (hx : s.heap.get? x = some ⟨.ref C, some dx, .fields vs, #[]⟩)
    (hne : dx ≠ x) (hns : s.heap.Ns1 dx mA) (hw : Within mA ns) (hsz : ns.length ≤ sizeLine)
    (h : ∀ h' tk', h'.Ns1 dx (fun y => if y = name then some v else mA y) → Heap.SameBut dx s.heap h' → Q () { s with heap := h', toks := tk' }) :
    wpAny (model prog w) A (setAttr (.ref x) name v) Q E s := by
  obtain ⟨od, hod, _⟩ := L2.lookIn_ns hns
  have I : InstAt s.heap x ⟨.ref C, some dx, .fields vs, #[]⟩ C (some od) := ⟨hx, rfl, rfl, hod⟩
  refine set_plain X I c.sa (osa_exc (s := { s with toks := s.toks + 1 }) X c na I ?_)
  obtain ⟨cd, hc, hdct, hmro⟩ := c.cls
  obtain ⟨hp, g, d, t, os⟩ := s
  have hx : hp.get? x = some ⟨.ref C, some dx, .fields vs, #[]⟩ := hx
  unfold storeInOwnDict
  refine wpAny_bind (wpAny_pure ?_)
  show wpAny _ _ (ownDictForStores (.ref x) >>= _) _ _ _
  refine wpAny_bind ?_
  show wpAny _ _ (instanceDict x true) _ _ _
  unfold instanceDict
  refine wpAny_bind (wpAny_loadPart hx (wpAny_bind ((looks_clsIn (M := model prog w) X hc).at ?_)))
  rw [hdct]
  refine wpAny_pure ?_
  show wpAny _ _ (storeInDict dx (.str name t) name v) _ _ _
  unfold storeInDict newKeyGuard
  refine wpAny_bind (wpAny_pure (wpAny_bind (wpAny_nsSet1 hns fun h' hn' hs => ?_)))
  obtain ⟨oD, esD, epD, hoD, hdD, hcD⟩ := hn'.count (Within.cons name v hw)
  refine wpAny_bind (wpAny_lookBehind hoD (by rw [hdD]; exact pastItsLine_dict (Nat.le_trans hcD (by rw [List.length_cons]; omega))) ?_)
  exact wpAny_pure (h h' _ hn' hs)
/-- an attribute of an exception, from its own dict -/
theorem get_entry {od : Option Addr} {o : Option Obj} {tk : Tok} {r : Value} {Q : Fin → Shared → Prop} (X : K.In s.heap) (I : InstAt s.heap x ⟨.ref C, od, .fields vs, #[]⟩ C o) (hf : findObj K C o name = some (.value r)) (hq : Q (.done (.ret r)) s) :
    wpAny (model prog w) A (Builtin.«object.__getattribute__» ⟨[.ref x, .str name tk], []⟩) Q E s := by
  obtain ⟨hh', g, d, t, os⟩ := s
  have L0 := I.type (M := model prog w)
  have L1 := looks_find (M := model prog w) X I hf
  refine wpAny_bind (wpAny_pure (wpAny_bind (wpAny_pure ?_)))
  exact wpAny_bind (L0.at (wpAny_bind (L1.at (wpAny_pure hq))))
theorem get_by {od : Option Addr} {o : Option Obj} {tk : Tok} {r : Value} {fill expr : Bool} {Q : Value → Shared → Prop} (X : K.In s.heap) (c : ExcC K W C) (I : InstAt s.heap x ⟨.ref C, od, .fields vs, #[]⟩ C o) (hf : findObj K C o name = some (.value r)) (hh : handedIn r = true) (hq : Q r s) :
    wpAny (model prog w) A (getAttrBy (.ref x) (.str name tk) fill expr) Q E s := by
  obtain ⟨hp, g, d, t, os⟩ := s
  have L0 := I.type (M := model prog w)
  have L1 := looks_findIn (M := model prog w) X c.ga
  have L2 := looks_findIn (M := model prog w) X c.gh
  have sub : Looks (model prog w) hp (isInstance (.ref x) (.type "BaseException")) true := L0.andThen (looks_mroIn X (by rw [c.mro]; simp [vmro]))
  unfold getAttrBy
  refine wpAny_holding (wpAny_bind (L0.at (wpAny_bind (L1.at ?_))))
  show wpAny _ _ (getAttrByItsOwn _ _ _ _ _ _) _ _ _
  unfold getAttrByItsOwn
  refine wpAny_bind ?_
  show wpAny _ _ (typeLookup (.ref C) "__getattr__") _ _ _
  refine L2.at (wpAny_bind (wpAny_attempt (wpAny_holding ?_)))
  have hx0 : (expr && onTheHeap (Value.builtin "BaseException.__getattribute__")) = false := by cases expr <;> rfl
  unfold callGetattribute
  rw [hx0, if_neg Bool.false_ne_true]
  unfold boundAndCalled
  rw [PySem.F.excAttr_ValueError.ga.bind]
  refine wpAny_bind (wpAny_pure ?_)
  have hk : builtinKind "BaseException.__getattribute__" = some .slot := by decide +kernel
  have hsplit : splitId "BaseException.__getattribute__" = some ("BaseException", "__getattribute__") := by decide +kernel
  refine wpAny_call (codeAny_call_builtin PySem.F.excAttr_ValueError.ga.plain PySem.F.entry_bexc_ga (@check_slot (model prog w) _ _ _ "BaseException.__getattribute__" "BaseException" "__getattribute__" (.ref x) [.str name tk] [] _ hk hsplit sub (PySem.F.args_bexc_ga (.ref x) (.str name tk)) ?_))
  refine get_entry X I hf ?_
  show wpAny _ _ (handedOut r) _ _ _
  rw [handedOut_of hh]
  exact wpAny_pure hq
theorem get_exc {od : Option Addr} {o : Option Obj} {r : Value} {expr : Bool} {Q : Value → Shared → Prop} (X : K.In s.heap) (c : ExcC K W C) (I : InstAt s.heap x ⟨.ref C, od, .fields vs, #[]⟩ C o) (hf : findObj K C o name = some (.value r)) (hh : handedIn r = true) (hq : Q r { s with toks := s.toks + 1 }) :
    wpAny (model prog w) A (getAttr (.ref x) name expr) Q E s := by
  unfold getAttr
  exact wpAny_bind (wpAny_mkText (get_by (s := { s with toks := s.toks + 1 }) X c I hf hh hq))

/-- .__class__, for isinstance -/
theorem class_exc {od : Option Addr} {o : Option Obj} {Q : Option Value → Shared → Prop} (X : K.In s.heap) (c : ExcC K W C) (I : InstAt s.heap x ⟨.ref C, od, .fields vs, #[]⟩ C o) (h : Q (some (.ref C)) { s with toks := s.toks + 1 }) :
    wpAny (model prog w) A (getAttr? (.ref x) "__class__") Q E s := by
  obtain ⟨hp, g, d, t, os⟩ := s
  obtain ⟨cd, hcd, hdct, hmro⟩ := c.cls
  have L0 := I.type (M := model prog w)
  have L1 := looks_findIn (M := model prog w) X c.ga
  have L2 := looks_findIn (M := model prog w) X c.gh
  have sub : Looks (model prog w) hp (isInstance (.ref x) (.type "BaseException")) true := L0.andThen (looks_mroIn X (by rw [c.mro]; simp [vmro]))
  have hf : findObj K C o "__class__" = some (.bind (.builtin "getset_descriptor.__get__") (.builtin "object.__class__")) := by
    unfold findObj
    rw [hcd, Option.bind_some, c.cl, Option.bind_some]
    simp only [c.clg, c.clt, Option.bind_some]
  have L3 := looks_find (M := model prog w) X I hf
  unfold getAttr?
  refine wpAny_bind (wpAny_mkText ?_)
  unfold getAttrBy?
  refine wpAny_bind (wpAny_attempt ?_)
  unfold getAttrBy
  refine wpAny_holding (wpAny_bind (L0.at (wpAny_bind (L1.at ?_))))
  show wpAny _ _ (getAttrByItsOwn _ _ _ _ _ _) _ _ _
  unfold getAttrByItsOwn
  refine wpAny_bind ?_
  show wpAny _ _ (typeLookup (.ref C) "__getattr__") _ _ _
  refine L2.at (wpAny_bind (wpAny_attempt (wpAny_holding ?_)))
  unfold callGetattribute
  rw [show (false && onTheHeap (Value.builtin "BaseException.__getattribute__")) = false from rfl, if_neg Bool.false_ne_true]
  unfold boundAndCalled
  rw [PySem.F.excAttr_ValueError.ga.bind]
  refine wpAny_bind (wpAny_pure ?_)
  have hk : builtinKind "BaseException.__getattribute__" = some .slot := by decide +kernel
  have hsplit : splitId "BaseException.__getattribute__" = some ("BaseException", "__getattribute__") := by decide +kernel
  refine wpAny_call (codeAny_call_builtin PySem.F.excAttr_ValueError.ga.plain PySem.F.entry_bexc_ga (@check_slot (model prog w) _ _ _ "BaseException.__getattribute__" "BaseException" "__getattribute__" (.ref x) [.str "__class__" t] [] _ hk hsplit sub (PySem.F.args_bexc_ga (.ref x) (.str "__class__" t)) ?_))
  refine wpAny_bind (wpAny_pure (wpAny_bind (wpAny_pure ?_)))
  refine wpAny_bind (L0.at (wpAny_bind (L3.at ?_)))
  show wpAny _ _ (holding [.builtin "object.__class__"] (call (.builtin "getset_descriptor.__get__") [.builtin "object.__class__", .ref x, .ref C]) >>= ret) _ _ _
  refine wpAny_bind (wpAny_holding (wpAny_call (class_get (s := ⟨hp, g, d, t + 1, os⟩) X I (by rw [c.mro]; simp [vmro]) ?_)))
  refine wpAny_pure ?_
  show wpAny _ _ (handedOut (.ref C)) _ _ _
  exact wpAny_pure (wpAny_pure h)
theorem kitx_exc {od : Option Addr} {o : Option Obj} (c : ExcC K W C) : KitX K (.ref x) (.ref C) (fun h => InstAt h x ⟨.ref C, od, .fields vs, #[]⟩ C o) where
  ty := fun _ _ _ I => I.type
  it := fun _ _ X _ => by
    obtain ⟨nm, q, N, bs, sn, sub, ab, col, dd, k0, k1, k2, k3, k5, e⟩ := c.lk
    intro A' Q' E' s' k q
    unfold isType loadHead
    exact wpAny_bind (wpAny_loadPart (k _ _ (X _ _ e)) (wpAny_pure q))
  ne := fun h tp dd its n sl X htp => by
    obtain ⟨nm, q, N, bs, sn, sub, ab, col, dd, k0, k1, k2, k3, k5, e⟩ := c.lk
    refine Bool.eq_false_iff.mpr fun q => ?_
    have e' : C = tp := Value.ref.inj (beq_iff_eq.mp q)
    subst e'
    have z := (X _ _ e).symm.trans htp
    have z' : Value.type "type" = Value.type "tuple" := congrArg Obj.cls (Option.some.inj z)
    exact absurd (Value.type.inj z') (by decide)
  ca := fun X I k => class_exc X c I k
/-- isinstance of an exception -/
theorem isinst_exc {od : Option Addr} {o : Option Obj} {cv : Value} {b : Bool} {Q : Value → Shared → Prop} (X : K.In s.heap) (c : ExcC K W C) (I : InstAt s.heap x ⟨.ref C, od, .fields vs, #[]⟩ C o) (e : kitOne K (.ref C) cv = some b) (h : ∀ tk, Q (.bool b) { s with toks := tk }) :
    wpAny (model prog w) A (call (.builtin "isinstance") [.ref x, cv]) Q E s := kia_one (kitx_exc c) X I e (fun z => nomatch z) h
end
end SX
namespace SX
open PySem PySem.W

/-- the traceback that an exception's object bears -/
def TbAt (h : Heap) (vs : Array Value) (e : Addr) (T : Option Addr) : Prop :=
  match T with
  | none => vs[1]? = some .none
  | some t => vs[1]? = some (.ref t) ∧ t ≠ e ∧ ∃ oT ts x, h.get? t = some oT ∧ oT.data = .fields ts ∧ ts[3]? = some x

section
variable {M : Model} {A : Around} {E : Value → Shared → Prop} {s : Shared}
/-- what noteFrame does: a new entry T' ahead of the one that was there -/
structure Noted (FL : List Addr) (e : Addr) (T : Option Addr) (C : Addr) (od : Option Addr) (h h' : Heap) (T' : Option Addr) : Prop where
  keep : ∀ b o, b ∉ FL → b ≠ e → (∀ t, T = some t → b ≠ t) → h.get? b = some o → h'.get? b = some o
  slot : ∀ b o, b ∈ FL → h.get? b = some o → ∃ sl, h'.get? b = some { o with slots := sl }
  exc : ∃ vs, h'.get? e = some ⟨.ref C, od, .fields vs, #[]⟩ ∧ TbAt h' vs e T'
  new : (∃ t, T' = some t ∧ h.objs.size ≤ t) ∨ (T' = T ∧ T ≠ none)
  there : ∀ t o, T = some t → h.get? t = some o → ∃ o', h'.get? t = some o'
theorem note_any {base : Heap} {env : Env} {outer : List Env} {L e C : Addr} {od : Option Addr} {vs : Array Value} {T : Option Addr} {Q : Unit → Shared → Prop}
    (hfr : A.frames = some (env :: outer)) (hl : s.heap.FunFrames base (env :: outer)) (hf : env.frame = some L) (he : s.heap.get? e = some ⟨.ref C, od, .fields vs, #[]⟩) (ht : TbAt s.heap vs e T)
    (h : ∀ h' T', T' ≠ none → Noted ((env :: outer).filterMap (·.frame)) e T C od s.heap h' T' → Q () { s with heap := h' }) :
    wpAny M A (noteFrame (.ref e) env) Q E s := by
  have frF : ∀ b ∈ (env :: outer).filterMap (·.frame), ∃ o, s.heap.get? b = some o ∧ ∀ vs, o.data ≠ .fields vs := fun b hb => (hl.mem hb).2
  have hene : e ∉ (env :: outer).filterMap (·.frame) := fun hm => by
    obtain ⟨o, ho, hnf⟩ := frF e hm
    rw [he] at ho; injection ho with ho; subst ho; exact hnf vs rfl
  have h1s : 1 < vs.size := by
    unfold TbAt at ht
    cases T with
    | none => exact (Array.getElem?_eq_some_iff.mp ht).1
    | some t => exact (Array.getElem?_eq_some_iff.mp ht.1).1
  -- the entry is made over a heap hp in which the old head may have been written
  have make : ∀ (hp : Heap) (head : Value) (hadNext : Bool), hp.FunFrames base (env :: outer) → hp.objs.size = s.heap.objs.size → hp.get? e = some ⟨.ref C, od, .fields vs, #[]⟩ →
      (∀ b o, (∀ t, T = some t → b ≠ t) → s.heap.get? b = some o → hp.get? b = some o) → (∀ t o, T = some t → s.heap.get? t = some o → ∃ o', hp.get? t = some o' ∧ t ∉ (env :: outer).filterMap (·.frame) ∧ t ≠ e) →
      wpAny M A (do let a ← frameOf env; let pl ← entryPlaceOf L hadNext; let b ← EntryCells.newEntry head a .none (rawInt L) .none pl; setField (.ref e) 1 b) Q E { s with heap := hp } := by
    intro hp head hadNext hlp hsz hep kp tp
    refine wpAny_bind (wpAny_frameOf_fun (s := { s with heap := hp }) hfr hlp hf fun h₁ hs₁ => ?_)
    refine wpAny_bind (wpAny_entryPlaceOf fun pl hpl => ?_)
    unfold EntryCells.newEntry newFields
    refine wpAny_bind (wpAny_newObj_type ?_ (hpl.sizeOk5 _ _ _ _ _))
    have he₁ : h₁.get? e = some ⟨.ref C, od, .fields vs, #[]⟩ := (hs₁.2.1 e hene).trans hep
    have he₂ := Heap.get?_push_of_some (h := h₁) { cls := .type "traceback", dict := none, data := .fields ([head, .ref L, .none, rawInt L, .none] ++ (if pl.isEmpty then List.replicate 6 Value.none else pl)).toArray } he₁
    refine wpAny_setField he₂ rfl h1s ?_
    have hTe : h₁.objs.size ≠ e := Nat.ne_of_gt (Heap.lt_size he₁)
    have he₃ := Heap.get?_update_self (Obj.mapFields (·.setIfInBounds 1 (Value.ref h₁.objs.size))) he₂ rfl
    have hT₃ := (Heap.get?_update_other (h₁.push { cls := .type "traceback", dict := none, data := .fields ([head, .ref L, .none, rawInt L, .none] ++ (if pl.isEmpty then List.replicate 6 Value.none else pl)).toArray })
      (Obj.mapFields (·.setIfInBounds 1 (Value.ref h₁.objs.size))) (Ne.symm hTe)).trans (Heap.get?_push_size h₁ rfl)
    have keep : ∀ b o, b ≠ e → h₁.get? b = some o →
        ((h₁.push { cls := .type "traceback", dict := none, data := .fields ([head, .ref L, .none, rawInt L, .none] ++ (if pl.isEmpty then List.replicate 6 Value.none else pl)).toArray }).update e (Obj.mapFields (·.setIfInBounds 1 (Value.ref h₁.objs.size)))).get? b = some o :=
      fun b o hbe hb => by
        rw [Heap.get?_update_other _ _ (Ne.symm hbe)]
        exact Heap.get?_push_of_some _ hb
    refine h _ (some h₁.objs.size) (by simp) ⟨fun b o hb hbe hbt q => ?_, fun b o hb q => ?_, ⟨vs.setIfInBounds 1 (.ref h₁.objs.size), ?_, ?_⟩, .inl ⟨_, rfl, by rw [hs₁.1, hsz]; exact Nat.le_refl _⟩, fun t o e1 e2 => ?_⟩
    · exact keep b o hbe ((hs₁.2.1 b hb).trans (kp b o hbt q))
    · have hbt : ∀ t, T = some t → b ≠ t := fun t e1 z => by
        obtain ⟨o', q', z2, _⟩ := tp t o e1 (z ▸ q)
        exact z2 (z ▸ hb)
      obtain ⟨sl, q'⟩ := hs₁.2.2 b o (kp b o hbt q)
      exact ⟨sl, keep b _ (fun z => hene (z ▸ hb)) q'⟩
    · exact he₃
    · refine ⟨by simp [h1s], hTe, _, _, rawInt L, hT₃, rfl, by first | (simp; done) | (rcases hpl with rfl | ⟨_, _, _, _, _, _, _, rfl⟩ <;> simp)⟩
    · obtain ⟨o', q', z2, z3⟩ := tp t o e1 e2
      exact ⟨o', keep t o' z3 ((hs₁.2.1 t z2).trans q')⟩
  unfold noteFrame
  simp only [hf]
  cases T with
  | none =>
    refine wpAny_bind (wpAny_field he rfl ht ?_)
    rw [if_neg (by decide)]
    exact make s.heap .none _ hl rfl he (fun b o _ q => q) (fun t o e1 => nomatch e1)
  | some t =>
    obtain ⟨ht1, hte, oT, ts, x, hT, hdT, h3⟩ := ht
    have tFL : t ∉ (env :: outer).filterMap (·.frame) := fun hm => by
      obtain ⟨o, ho, hnf⟩ := frF t hm
      rw [hT] at ho; injection ho with ho; subst ho; exact hnf ts hdT
    refine wpAny_bind (wpAny_field he rfl ht1 ?_)
    rw [if_pos (show (Value.ref t != Value.none) = true from by simp)]
    refine wpAny_bind (wpAny_field hT hdT h3 ?_)
    by_cases hx : (x == rawInt L) = true
    · rw [if_pos hx]
      refine wpAny_pure (h s.heap (some t) (by simp) ⟨fun b o _ _ _ q => q, fun b o _ q => ⟨o.slots, q⟩, ⟨vs, he, ht1, hte, oT, ts, x, hT, hdT, h3⟩, .inr ⟨rfl, by simp⟩, fun t' o e1 q => ⟨o, q⟩⟩)
    · rw [if_neg hx]
      refine wpAny_bind (wpAny_setField hT hdT (Array.getElem?_eq_some_iff.mp h3).1 ?_)
      have other : ∀ b, b ≠ t → (s.heap.update t (Obj.mapFields (·.setIfInBounds 3 Value.none))).get? b = s.heap.get? b := fun b hb => Heap.get?_update_other _ _ (Ne.symm hb)
      have hT' := Heap.get?_update_self (Obj.mapFields (·.setIfInBounds 3 Value.none)) hT (Obj.isFreed_of_fields (Obj.data_mapFields hdT _))
      refine make (s.heap.update t (Obj.mapFields (·.setIfInBounds 3 Value.none))) _ _ (hl.of_keeps fun b o hb hnf => ⟨o, (other b fun q => ?_).trans hb, rfl⟩) (Heap.SameBut.update ..).1 ((other e (Ne.symm hte)).trans he) (fun b o hb q => (other b (hb t rfl)).trans q) (fun t' o e1 q => ?_)
      · rw [q, hT] at hb; injection hb with hb; subst hb; exact hnf ts hdT
      · cases e1
        exact ⟨_, hT', tFL, hte⟩
/-- setFlight of an exception that bears a traceback -/
theorem flight_any {e C t : Addr} {od : Option Addr} {vs : Array Value} {fr : Option Addr} {Q : Unit → Shared → Prop} (he : s.heap.get? e = some ⟨.ref C, od, .fields vs, #[]⟩) (ht : TbAt s.heap vs e (some t))
    (h : ∀ h', Heap.SameBut t s.heap h' → TbAt h' vs e (some t) → Q () { s with heap := h' }) : wpAny M A (setFlight (.ref e) fr) Q E s := by
  obtain ⟨ht1, hte, oT, ts, x, hT, hdT, h3⟩ := ht
  unfold setFlight
  refine wpAny_bind (wpAny_field he rfl ht1 ?_)
  rw [if_pos (show (Value.ref t != Value.none) = true from by simp)]
  have hsz := (Array.getElem?_eq_some_iff.mp h3).1
  refine wpAny_setField hT hdT hsz (h _ (Heap.SameBut.update ..) ⟨ht1, hte, _, _, _, Heap.get?_update_self _ hT (Obj.isFreed_of_fields (Obj.data_mapFields hdT _)), Obj.data_mapFields hdT _, Array.getElem?_setIfInBounds_self_of_lt hsz⟩)
end
end SX
namespace L2
open PySem PySem.Spec PyProof.Rows

/-! ### an exception in the abstract heap: just made (ExN), or thrown (ExO) -/
def ExN (e C : Addr) (od : Option Addr) : HO := .ext fun h => ∃ vs, h.get? e = some ⟨.ref C, od, .fields vs, #[]⟩ ∧ vs[1]? = some .none
def ExO (e C : Addr) (od : Option Addr) : HO := .ext fun h => ∃ vs, h.get? e = some ⟨.ref C, od, .fields vs, #[]⟩
section
variable {P : Program} {w : World} {H : Hp} {h : Heap} {e C : Addr} {od : Option Addr}
theorem exN_ok {vs : Array Value} (a : h.get? e = some ⟨.ref C, od, .fields vs, #[]⟩) (b : vs[1]? = some .none) : ObjOk P w H h e (ExN e C od) :=
  ⟨⟨vs, a, b⟩, ⟨_, a⟩, fun h1 h2 ⟨vs, a, b⟩ k => ⟨vs, k _ a, b⟩⟩
theorem exO_ok {vs : Array Value} (a : h.get? e = some ⟨.ref C, od, .fields vs, #[]⟩) : ObjOk P w H h e (ExO e C od) :=
  ⟨⟨vs, a⟩, ⟨_, a⟩, fun h1 h2 ⟨vs, a⟩ k => ⟨vs, k _ a⟩⟩
theorem exN_at (ok : HOk P w H h) (q : H e = some (ExN e C od)) : ∃ vs, h.get? e = some ⟨.ref C, od, .fields vs, #[]⟩ ∧ vs[1]? = some .none := (ok e _ q).1
theorem exO_at (ok : HOk P w H h) (q : H e = some (ExO e C od)) : ∃ vs, h.get? e = some ⟨.ref C, od, .fields vs, #[]⟩ := (ok e _ q).1
end

/-- in flight: the exception is tracked, its traceback is young and not tracked -/
structure FlyAt (X : Cx) (H : Hp) (h : Heap) (e C : Addr) (od : Option Addr) (traced : Bool) : Prop where
  tr : H e = some (ExO e C od)
  tb : ∃ vs T, h.get? e = some ⟨.ref C, od, .fields vs, #[]⟩ ∧ SX.TbAt h vs e T ∧ (∀ t, T = some t → H t = none ∧ X.s₀.heap.objs.size ≤ t ∧ ∀ p ∈ X.pn, p.1 ≠ t) ∧ (traced = true → T ≠ none)
def Fly (X : Cx) (E : XK) (ev : Value) (s' : Shared) : Prop := ∃ e C od σ H', ev = .ref e ∧ Inv X [] σ H' s' ∧ FlyAt X H' s'.heap e C od false ∧ E (.ref C) (some e) H'
abbrev Cx.fly (X : Cx) (E : XK) : Cx := X.wish (Fly X E)
/-- a frame of its own -/
def OwnFr (X : Cx) : Prop := X.stack = X.env :: X.outer ∧ X.env.frame = some X.env.locals

section
variable {X : Cx} {σ : St} {H : Hp} {s : Shared} {e C : Addr} {od : Option Addr} {b : Bool}
theorem tb_apart (I : Inv X [] σ H s) {t : Addr} {oT : Obj} {ts : Array Value} (hT : s.heap.get? t = some oT) (hd : oT.data = .fields ts) : t ≠ X.env.locals ∧ (∀ x c, X.env.cells.lookup x = some c → c ≠ t) := by
  refine ⟨fun z => ?_, fun x c q z => ?_⟩
  · obtain ⟨m, ⟨o, es, ep, ho, hd', _⟩, _⟩ := I.loc
    rw [← z, hT] at ho; cases ho; rw [hd] at hd'; cases hd'
  · obtain ⟨v, o, ho, hd'⟩ := I.cell x c q
    rw [z, hT] at ho; cases ho; rw [hd] at hd'; cases hd'
theorem fly_note {Q : Unit → Shared → Prop} {E' : Value → Shared → Prop} (hO : OwnFr X) (I : Inv X [] σ H s) (f : FlyAt X H s.heap e C od b) (h : ∀ s', Inv X [] σ H s' → FlyAt X H s'.heap e C od true → Q () s') :
    wpAny (model X.prog X.w) X.A (noteFrame (.ref e) X.env) Q E' s := by
  obtain ⟨hst, hfm⟩ := hO
  obtain ⟨vs, T, he, ht, hT, _⟩ := f.tb
  have hfr : X.A.frames = some (X.env :: X.outer) := by rw [← hst]; exact I.ok.frames
  have hl : s.heap.FunFrames X.base (X.env :: X.outer) := by have := I.stack; rw [hst] at this; exact this
  have hFL : (X.env :: X.outer).filterMap (·.frame) = X.env.locals :: X.fs := by rw [List.filterMap_cons, hfm]; rfl
  refine SX.note_any (T := T) hfr hl hfm he ht fun h' T' hT' N => ?_
  rw [hFL] at N
  have trk : ∀ c u, H c = some u → c ∉ X.env.locals :: X.fs := fun c u q z => by
    have := I.stkFree c (by unfold frs; rw [hst, hFL]; exact z)
    rw [q] at this; cases this
  have nT : ∀ c u, H c = some u → ∀ t, T = some t → c ≠ t := fun c u q t e1 z => by
    have := (hT t e1).1
    rw [← z, q] at this; cases this
  have hok' : HOk X.prog X.w H h' := fun c u q => by
    by_cases hc : c = e
    · subst hc
      rw [f.tr] at q; cases q
      obtain ⟨vs', q', _⟩ := N.exc
      exact exO_ok q'
    · refine (I.hok c u q).stay (fun c' v hc' q' => N.keep c' v ?_ ?_ ?_ q') (fun _ q => q) fun _ _ q => q
      · rcases hc' with z | z
        · rw [z]; exact trk c u q
        · exact trk c' _ z
      · rcases hc' with z | z
        · rw [z]; exact hc
        · intro zz; rw [zz, f.tr] at z; cases z
      · rcases hc' with z | z
        · rw [z]; exact nT c u q
        · exact nT c' _ z
  have I' : Inv X [] σ H { s with heap := h', gens := s.gens, drawn := s.drawn, toks := s.toks } := by
    refine I.step (ch := T.toList) (fun c hc => ?_) (fun c o h1 h2 h3 q n => ?_) (fun c o h1 h2 h3 q n => N.slot c o (List.mem_cons_of_mem _ h2) q) (fun _ _ _ _ n => n) (fun c o h3 q => ?_) (fun _ _ q => q) (fun _ _ _ q => q) (fun c ps q => ⟨#[], by rw [q]; simp⟩) (fun m hm => ?_) hok' I.bare
    · have e1 : T = some c := by cases T <;> simp at hc; rw [hc]
      obtain ⟨t1, t2, t3⟩ := hT c e1
      rw [e1] at ht
      obtain ⟨_, _, oT, ts, x, hTo, hTd, _⟩ := ht
      obtain ⟨a1, a2⟩ := tb_apart I hTo hTd
      exact ⟨.inr t2, a1, a2, fun p hp => t3 p (by simpa using hp)⟩
    · refine N.keep c o ?_ ?_ ?_ q
      · intro z
        rcases List.mem_cons.mp z with z | z
        · exact h1 z
        · exact h2 z
      · intro z; rw [z, f.tr] at n; cases n
      · intro t e1 z; exact h3 (by rw [e1, z]; simp)
    · by_cases hc : c = e
      · subst hc
        obtain ⟨vs', q', _⟩ := N.exc
        exact ⟨_, q'⟩
      · by_cases hF : c ∈ X.env.locals :: X.fs
        · obtain ⟨sl, q'⟩ := N.slot c o hF q
          exact ⟨_, q'⟩
        · exact ⟨o, N.keep c o hF hc (fun t e1 z => h3 (by rw [e1, z]; simp)) q⟩
    · obtain ⟨o, es, ep, ho, r⟩ := hm
      obtain ⟨sl, q'⟩ := N.slot _ o List.mem_cons_self ho
      exact ⟨_, es, ep, q', r⟩
  refine h _ I' ⟨f.tr, ?_⟩
  obtain ⟨vs', q', t'⟩ := N.exc
  refine ⟨vs', T', q', t', fun t e1 => ?_, fun _ => hT'⟩
  rcases N.new with ⟨t2, e2, hle⟩ | ⟨e2, _⟩
  · rw [e1] at e2; cases e2
    refine ⟨I.hok.fresh hle, Nat.le_trans I.sz hle, fun p hp z => ?_⟩
    have := Heap.lt_size (I.pin p (List.mem_append_left _ hp)).1
    rw [z] at this
    exact absurd (Nat.lt_of_lt_of_le this hle) (Nat.lt_irrefl _)
  · exact hT t (e2 ▸ e1)
theorem fly_set {Q : Unit → Shared → Prop} {E' : Value → Shared → Prop} {fr : Option Addr} {A : Around} (I : Inv X [] σ H s) (f : FlyAt X H s.heap e C od true) (h : ∀ s', Inv X [] σ H s' → FlyAt X H s'.heap e C od true → Q () s') :
    wpAny (model X.prog X.w) A (setFlight (.ref e) fr) Q E' s := by
  obtain ⟨vs, T, he, ht, hT, hn⟩ := f.tb
  cases T with
  | none => exact absurd rfl (hn rfl)
  | some t =>
    obtain ⟨t1, t2, t3⟩ := hT t rfl
    refine SX.flight_any he ht fun h' sb ht' => ?_
    obtain ⟨_, hte, oT, ts, x, hTo, hTd, _⟩ := ht
    obtain ⟨a1, a2⟩ := tb_apart I hTo hTd
    have I' : Inv X [] σ H { s with heap := h' } := I.turned (t' := s.toks) (it := t) (fun b o hb q => (sb.2 b hb).trans q) t1 a1 (.inr t2) a2 fun p hp => t3 p (by simpa using hp)
    exact h _ I' ⟨f.tr, vs, some t, (sb.2 e (Ne.symm hte)).trans he, ht', fun t' e1 => by cases e1; exact ⟨t1, t2, t3⟩, fun _ => by simp⟩
/-- the first field is read and is no None -/
theorem fly_field {Q : Value → Shared → Prop} {E' : Value → Shared → Prop} {A : Around} (f : FlyAt X H s.heap e C od true) (h : ∀ t, Q (.ref t) s) : wpAny (model X.prog X.w) A (field (.ref e) 1) Q E' s := by
  obtain ⟨vs, T, he, ht, hT, hn⟩ := f.tb
  cases T with
  | none => exact absurd rfl (hn rfl)
  | some t => exact wpAny_field he rfl ht.1 (h t)
theorem own_fly {E : XK} (hO : OwnFr X) : PassesOwn (model X.prog X.w) X.A X.env (Fly X E) := by
  rintro ev s' ⟨e, C, od, σ, H, rfl, I, f, q⟩
  refine fly_note hO I f fun s2 I2 f2 => ?_
  unfold cameBackBy
  refine wpAny_bind (fly_field f2 fun t => ?_)
  rw [if_neg (by simp)]
  exact fly_set I2 f2 fun s3 I3 f3 => ⟨e, C, od, σ, H, rfl, I3, ⟨f3.tr, let ⟨vs, T, a, b, c, _⟩ := f3.tb; ⟨vs, T, a, b, c, fun z => nomatch z⟩⟩, q⟩
end

/-- an exception behind a call -/
def CXe (P : Program) (w : World) : CXT := fun outer H s E ev s' => ∃ e C od H', ev = .ref e ∧ s'.os = s.os ∧ AllBare s'.gens ∧ Un (frs outer) [] H H' s.heap s'.heap ∧ HOk P w H' s'.heap ∧ H' e = some (ExO e C od) ∧
  (∃ vs T, s'.heap.get? e = some ⟨.ref C, od, .fields vs, #[]⟩ ∧ SX.TbAt s'.heap vs e T ∧ ∀ t, T = some t → H' t = none ∧ s.heap.objs.size ≤ t) ∧ E (.ref C) (some e) H'
section
variable {X : Cx}
/-- it passes on to this body's own wish -/
theorem passX {E E' : XK} (hE : ∀ c e H, E c e H → E' c e H) : Passes (CXe X.prog X.w) (X.fly E') E := by
  rintro pins σ H s ev s' I ⟨e, C, od, H', rfl, os, bare, un, hok, he, ⟨vs, T, q1, q2, q3⟩, q⟩
  have I0 : Inv X pins σ H s := I.unwish
  have I1 : Inv X [] σ H s := I0.pins_of fun p hp => absurd hp (by simp)
  have I2 : Inv X [] σ H' s' := I1.call' os un hok bare (fun b hb => absurd hb (by simp))
  refine ⟨e, C, od, σ, H', rfl, I2, ⟨he, vs, T, q1, q2, fun t e1 => ?_, fun z => nomatch z⟩, hE _ _ _ q⟩
  obtain ⟨t1, t2⟩ := q3 t e1
  refine ⟨t1, Nat.le_trans I0.sz t2, fun p hp z => ?_⟩
  have := Heap.lt_size (I0.pin p (List.mem_append_left _ hp)).1
  rw [z] at this
  exact absurd (Nat.lt_of_lt_of_le this t2) (Nat.lt_irrefl _)
theorem PSs.unfly {E : XK} {st : List Stmt} {t : TS} (h : PSs (X.fly E) st t) (hx : ∀ e s', Fly X E e s' → X.xe e s') : PSs X st t := fun pins s σ H D I hw =>
  wpAny_mono (h pins s σ H D (I.wish _) hw) (fun f s' q => SP.unwish q) hx
end
/-- it leaves a def -/
theorem leave_fly {P : Program} {w : World} {K : PySem.W.Frag} {mg : Str → Option Value} {base : Heap} {N : List Str} {qual : Str} {scope : Scope} {f : Addr} {cd : Value} {A : Around} {outer : List Env} {s : Shared} {H : Hp} {E : XK} {ev : Value} {s' : Shared}
    (h : Fly (cxOf (CXe P w) P w K mg base N qual scope f cd A outer s H E) E ev s') : (cxOf (CXe P w) P w K mg base N qual scope f cd A outer s H E).xe ev s' := by
  obtain ⟨e, C, od, σ, H', rfl, I, fl, q⟩ := h
  show wpAny (model P w) _ (leaving _ (.ref e)) _ _ s'
  unfold leaving
  have hO : OwnFr (cxOf (CXe P w) P w K mg base N qual scope f cd A outer s H E) := ⟨rfl, rfl⟩
  refine wpAny_bind (fly_note hO I fl fun s2 I2 f2 => fly_set I2 f2 fun s3 I3 f3 => ?_)
  obtain ⟨vs, T, a, b, c, _⟩ := f3.tb
  exact ⟨e, C, od, H', rfl, I3.os, I3.bare, I3.base, I3.hok, f3.tr, ⟨vs, T, a, b, fun t e1 => ⟨(c t e1).1, (c t e1).2.1⟩⟩, q⟩
section
variable {P : Program} {w : World} {K : PySem.W.Frag} {mg : Str → Option Value} {base : Heap}
/-- THE RULE for a def out of which exceptions may come -/
theorem Fun.okX {x qual : Str} {st : Stmt} {f : Addr} {fd : FuncData} {N ps : List Str} {k : Nat} {sp : Sp} (F : Fun K x qual st f fd) (S : FnScope N ps (defScope st)) (len : ∀ vs H Q E, sp vs H Q E → vs.length = ps.length)
    (hbody : ∀ (cdv : Value) (A : Around) (outer : List Env) (s : Shared) (H : Hp) (vs : List V) (Q : VK) (E : XK), Room k (A.deeper (envOfC qual (defScope st) s.heap.objs.size f cdv)) → sp vs H Q E →
      ∃ t, PSs ((cxOf (CXe P w) P w K mg base N qual (defScope st) f cdv A outer s H E).fly E) (defBody st) t ∧ t { nx := fun _ H' => Q .non H', rt := Q } (start N vs) H) : FnOk P w K mg base (CXe P w) (k + 1) f fd ps sp := by
  obtain ⟨oc, od, kV, doc, pm, an, cdv, ct, osl, rfl, lk, hcd⟩ := F.ex
  refine fn_of lk hcd S len fun A outer s H vs Q E hr hsp => ?_
  obtain ⟨t, h, q⟩ := hbody cdv A outer s H vs Q E hr hsp
  exact ⟨t, h.unfly fun _ _ z => leave_fly z, q⟩
end
end L2
namespace L2
open PySem PySem.Spec PyProof.Rows

/-- the dict of an exception is changed -/
theorem Inv.xdw {X : Cx} {pins : List (Addr × Obj)} {σ : St} {H : Hp} {s : Shared} {h' : Heap} {d : Addr} {fs fs' : List (Str × V)} {t' : Nat} (I : Inv X pins σ H s) (hd : H d = some (.xd fs)) (sb : Heap.SameBut d s.heap h')
    (new : ObjOk X.prog X.w (upd H d (.xd fs')) h' d (.xd fs')) : Inv X pins σ (upd H d (.xd fs')) { s with heap := h', toks := t' } := by
  have nd : ∀ b (u : Obj), H b = none → b ≠ d := fun b u e z => by rw [z, hd] at e; cases e
  refine I.un ⟨fun b o q n _ _ => (sb.2 b (nd b o n)).trans q, fun b o q n hb => ?_, fun b o q n _ => by rw [upd_ne (nd b o n)]; exact n, fun b o q _ => ?_, fun b xs q => ?_, fun b o u q => ?_, fun b ps q => ?_⟩ fun b u q => ?_
  · exact fun _ => ⟨o.slots, (sb.2 b (nd b o n)).trans q⟩
  · by_cases z : b = d
    · obtain ⟨o', e⟩ := (show ∃ o', h'.get? d = some o' from let ⟨mA, ⟨o, _, _, e, _⟩, _⟩ := new; ⟨o, e⟩)
      exact ⟨o', z ▸ e⟩
    · exact ⟨o, (sb.2 b z).trans q⟩
  · rw [upd_ne (fun z => by rw [z, hd] at q; cases q)]; exact q
  · rw [upd_ne (fun z => by rw [z, hd] at q; cases q)]; exact q
  · exact ⟨#[], by rw [upd_ne (fun z => by rw [z, hd] at q; cases q), q]; simp⟩
  · by_cases z : b = d
    · subst z; rw [upd_same] at q; cases q; exact new
    · rw [upd_ne z] at q
      refine (I.hok b u q).stay (fun c v hc r => (sb.2 c ?_).trans r) (fun c r => ?_) fun c xs r => ?_
      · rcases hc with z2 | z2
        · rw [z2]; exact z
        · intro z3; rw [z3, hd] at z2; cases z2
      · rw [upd_ne (fun z3 => by rw [z3, hd] at r; cases r)]; exact r
      · rw [upd_ne (fun z3 => by rw [z3, hd] at r; cases r)]; exact r

/-- self.f = value within an exception's __init__ -/
def sFldX (K : PySem.W.Frag) (ta tv : TE) (f : Str) : TS := fun D σ H => tv σ H fun y H1 => ta σ H1 fun x H2 => ∃ a W C, x = .ref a ∧ SX.ExcC K W C ∧ PySem.W.findIn K (.ref C) f = some none ∧
  ((H2 a = some (ExN a C none) ∧ ∀ d, H2 d = none → d ≠ a → D.nx σ (upd (upd H2 a (ExN a C (some d))) d (.xd [(f, y)]))) ∨
    (∃ d fs, H2 a = some (ExN a C (some d)) ∧ H2 d = some (.xd fs) ∧ fs.length < 1000 ∧ D.nx σ (upd H2 d (.xd (putF f y fs)))))
section
variable {X : Cx} {o e value : Expr} {f : Str} {pos pos' : Pos} {ta tv : TE}
theorem within_of {fs : List (Str × V)} {mA : Str → Option Value} (r : ∀ f, RelO (fs.lookup f) (mA f)) : PySem.Within mA (fs.map (·.1)) := fun y hy => by
  cases q : fs.lookup y with
  | none => exact absurd (RelO.none_of (by rw [← q]; exact r y)) hy
  | some v => exact List.mem_map.mpr ⟨(y, v), PySem.mem_of_lookup q, rfl⟩
theorem ps_fldX (ha : PE X o ta) (hv : PE X value tv) (hs : swapsWith value (some (.Attribute o f pos')) pos.line X.env = pure false) : PS X (.Assign [.Attribute o f pos'] value pos) (sFldX X.K ta tv f) := by
  intro pins s σ H D I h
  refine plainObj_wpAny_Assign_Attribute (thn (hv pins s σ H _ I h) fun u s1 ⟨y, H1, I1, ry, q⟩ => thn (ha pins s1 σ H1 _ I1 q) fun ov s2 ⟨x, H2, I2, rx, a, W, C, ex, c, n, q2⟩ => ?_) hs
  subst ex
  obtain rfl : ov = Value.ref a := rx
  rcases q2 with ⟨ea, q2⟩ | ⟨d, fs, ea, ed, hl, q2⟩
  · obtain ⟨vs, hx, h1⟩ := exN_at I2.hok ea
    refine SX.set_first I2.kIn c n hx fun h' tk' hx' hns kp => ?_
    have fd : H2 s2.heap.objs.size = none := I2.hok.fresh (Nat.le_refl _)
    have ne : s2.heap.objs.size ≠ a := Nat.ne_of_gt (Heap.lt_size hx)
    refine ⟨σ, _, ?_, q2 s2.heap.objs.size fd ne⟩
    have nea : ∀ b (u : Obj), H2 b = none → b ≠ a := fun b u z zz => by rw [zz, ea] at z; cases z
    have ned : ∀ b u, H2 b = some u → b ≠ s2.heap.objs.size := fun b u z => ne_of_none z fd
    have hokA : HOk X.prog X.w (upd (upd H2 a (ExN a C (some s2.heap.objs.size))) s2.heap.objs.size (.xd [(f, y)])) h' := fun b u z => by
      by_cases hb : b = s2.heap.objs.size
      · subst hb; rw [upd_same] at z; cases z
        refine ⟨_, hns, fun g => ?_⟩
        show RelO (List.lookup g [(f, y)]) (if g = f then some u else none)
        rw [List.lookup_cons]
        by_cases hg : g = f
        · subst hg; rw [if_pos rfl]; simp only [beq_self_eq_true]; exact ry
        · rw [if_neg hg, beq_false_of_ne hg]; exact True.intro
      · rw [upd_ne hb] at z
        by_cases hb2 : b = a
        · subst hb2; rw [upd_same] at z; cases z
          exact exN_ok hx' h1
        · rw [upd_ne hb2] at z
          refine (I2.hok b u z).stay (fun c' v hc r => kp c' v ?_ r) (fun c' r => ?_) fun c' xs r => ?_
          · rcases hc with z2 | z2
            · rw [z2]; exact hb2
            · intro z3; rw [z3, ea] at z2; cases z2
          · rw [upd_ne (ned c' _ r), upd_ne (fun z3 => by rw [z3, ea] at r; cases r)]; exact r
          · rw [upd_ne (ned c' _ r), upd_ne (fun z3 => by rw [z3, ea] at r; cases r)]; exact r
    refine I2.un (t' := tk') ⟨fun b ob q n _ _ => kp b ob (nea b ob n) q, fun b ob q n _ _ => ⟨ob.slots, kp b ob (nea b ob n) q⟩, fun b ob q n _ => by rw [upd_ne (Nat.ne_of_lt (Heap.lt_size q)), upd_ne (nea b ob n)]; exact n, fun b ob q _ => ?_, fun b xs q => ?_, fun b ob u' q => ?_, fun b ps q => ?_⟩ hokA
    · by_cases z : b = a
      · subst z; exact ⟨_, hx'⟩
      · exact ⟨ob, kp b ob z q⟩
    · rw [upd_ne (ned b _ q), upd_ne (fun z3 => by rw [z3, ea] at q; cases q)]; exact q
    · rw [upd_ne (ned b _ q), upd_ne (fun z3 => by rw [z3, ea] at q; cases q)]; exact q
    · exact ⟨#[], by rw [upd_ne (ned b _ q), upd_ne (fun z3 => by rw [z3, ea] at q; cases q), q]; simp⟩
  · obtain ⟨vs, hx, h1⟩ := exN_at I2.hok ea
    obtain ⟨mA, hns, r⟩ := (show ObjOk X.prog X.w H2 s2.heap d (.xd fs) from I2.hok d _ ed)
    have ne : d ≠ a := fun z => by rw [z, ea] at ed; cases ed
    refine SX.set_next (ns := fs.map (·.1)) I2.kIn c n hx ne hns (within_of r) (by rw [List.length_map, sizeLine_eq]; omega) fun h' tk' hns' sb => ?_
    refine ⟨σ, _, I2.xdw (t' := tk') ed sb ⟨_, hns', fun g => ?_⟩, q2⟩
    show RelO ((putF f y fs).lookup g) (if g = f then some u else mA g)
    rw [lookup_putF]
    by_cases q : g = f
    · rw [if_pos q, if_pos q]; exact ry
    · rw [if_neg q, if_neg q]; exact r g
/-- e.f of an exception that was caught -/
def tFldX (K : PySem.W.Frag) (ta : TE) (f : Str) : TE := fun σ H Q => ta σ H fun x H1 => ∃ a W C d fs v, x = .ref a ∧ SX.ExcC K W C ∧ PySem.W.findIn K (.ref C) f = some none ∧ H1 a = some (ExO a C (some d)) ∧ H1 d = some (.xd fs) ∧ fs.lookup f = some v ∧ Q v H1
theorem pe_fldX (he : PE X e ta) (hb : attributeBase e f X.env (eval e X.env) = eval e X.env) : PE X (.Attribute e f pos) (tFldX X.K ta f) := by
  intro pins s σ H Q I h
  refine attr_of hb (thn (he pins s σ H _ I h) fun u s1 ⟨x, H1, I1, rx, a, W, C, d, fs, v, ex, c, n, ea, ed, l, q⟩ => ?_)
  subst ex
  obtain rfl : u = Value.ref a := rx
  obtain ⟨vs, hx⟩ := exO_at I1.hok ea
  obtain ⟨mA, hns, r⟩ := (show ObjOk X.prog X.w H1 s1.heap d (.xd fs) from I1.hok d _ ed)
  obtain ⟨od, hod, hlk⟩ := lookIn_ns hns
  obtain ⟨uv, euv, ruv⟩ := RelO.some_of (by rw [← l]; exact r f)
  obtain ⟨cd, hc1, hc2, _⟩ := c.cls
  refine SX.get_exc (o := some od) I1.kIn c ⟨hx, rfl, rfl, hod⟩ (PySem.W.findObj_own (attr := none) (by unfold PySem.W.hasDictIn; rw [hc1]; exact hc2) n rfl (by rw [hlk, euv])) (handed_of ruv) ?_
  exact ⟨v, H1, I1.tok _, ruv, q⟩
end

/-! ### isinstance -/
/-- the type of a value, an exception's too -/
inductive TyX (K : PySem.W.Frag) (H : Hp) : V → Value → Prop where
  | pl {x : V} {t : Value} (h : TyOf K H x t) : TyX K H x t
  | exc {a W C : Addr} {d : Addr} {fs : List (Str × V)} (c : SX.ExcC K W C) (e : H a = some (ExO a C (some d))) (ed : H d = some (.xd fs)) : TyX K H (.ref a) (.ref C)
  | exc0 {a W C : Addr} (c : SX.ExcC K W C) (e : H a = some (ExO a C none)) : TyX K H (.ref a) (.ref C)
/-- the class that is asked for -/
def clsV : V → Option Value
  | .ty n => some (.type n)
  | .ref a => some (.ref a)
  | _ => none
theorem clsV_of {x : V} {u v : Value} (h : clsV x = some v) (r : RelV x u) : u = v := by
  cases x with
  | ty n => cases h; exact r
  | ref a => cases h; exact r
  | _ => cases h
theorem call_isinst {X : Cx} : CallR X (.builtin "isinstance") (fun xs H Q => ∃ x c t cv b, xs = [x, c] ∧ TyX X.K H x t ∧ clsV c = some cv ∧ PySem.W.kitOne X.K t cv = some b ∧ Q (.bl b) H) := by
  intro pins s σ H xs us Q I r h
  obtain ⟨x, c, t, cv, b, rfl, ty, hc, e, q⟩ := h
  obtain ⟨u, v, rfl, ru, rv⟩ := vals2 r
  obtain rfl := clsV_of hc rv
  cases ty with
  | pl ty => exact isinst_ok I ru ty e fun tk => ⟨.bl b, H, I.tok _, rfl, q⟩
  | @exc a W C d fs cc ea ed =>
    cases (show u = Value.ref a from ru)
    obtain ⟨vs, hx⟩ := exO_at I.hok ea
    obtain ⟨mA, hns, r⟩ := (show ObjOk X.prog X.w H s.heap d (.xd fs) from I.hok d _ ed)
    obtain ⟨od, hod, _⟩ := lookIn_ns hns
    exact SX.isinst_exc (o := some od) I.kIn cc ⟨hx, rfl, rfl, hod⟩ e fun tk => ⟨.bl b, H, I.tok _, rfl, q⟩
  | @exc0 a W C cc ea =>
    cases (show u = Value.ref a from ru)
    obtain ⟨vs, hx⟩ := exO_at I.hok ea
    exact SX.isinst_exc (o := none) I.kIn cc ⟨hx, rfl, rfl, True.intro⟩ e fun tk => ⟨.bl b, H, I.tok _, rfl, q⟩

/-! ### raise -/
def tRaise (C : Addr) (spI : Sp) (E : XK) (ta : TA) : TS := fun _ σ H => ta σ H fun vs H1 => vs.length ≤ 1000 ∧ ∀ e, H1 e = none →
  spI (.ref e :: vs) (upd H1 e (ExN e C none)) (fun v H2 => v = .non ∧ ∃ od, H2 e = some (ExN e C od) ∧ E (.ref C) (some e) (upd H2 e (ExO e C od))) E0
section
variable {X : Cx} {E : XK} {W C fI : Addr} {fdI : FuncData} {ps : List Str} {spI : Sp} {k : Nat} {x : Str} {np cpos pos : Pos} {e0 : Expr} {rest : List Expr} {ta : TA}
theorem ps_raise (hc : X.calm = true) (c : SX.ExcC X.K W C) (hg : Gl X x) (hm : X.mg x = some (.ref C)) (FI : FnOk X.prog X.w X.K X.mg X.base CX0 k fI fdI ps spI) (hi : PySem.W.findIn X.K (.ref C) "__init__" = some (some (.ref fI)))
    (hf : PySem.W.typeIn X.K (.ref fI) = some (.type "function")) (hb : Binds X.K fdI ps []) (hr : Room (k + 1) X.A) (ha : PA (X.fly E) (e0 :: rest) ta) (hdb : (x == ("__debug__" : Str)) = false := by decide)
    (he : starEach (e0 :: rest) X.env = (false, eval e0 X.env) :: starEach rest X.env := by rfl) (hpl : (backTo cpos (starEach rest X.env)).any (·.1) = false := by rfl) :
    PS (X.fly E) (.Raise (some (.Call (.Name x np) (e0 :: rest) [] cpos)) none pos) (tRaise C spI E ta) := by
  intro pins s σ H D I h
  obtain ⟨nm, q, N, bs, sn, sub, ab, col, dd, k0, k1, k2, k3, k5, lk⟩ := c.lk
  have core : wpAny (model X.prog X.w) X.A (eval (.Call (.Name x np) (e0 :: rest) [] cpos) X.env) (fun v s1 => ∃ e od vs, v = .ref e ∧ s1.heap.get? C = some (excClassObj nm q C N bs (.ref W :: SX.vmro) true sn sub ab col dd k0 k1 k2 k3 k5 "ValueError.__new__") ∧
      s1.heap.get? e = some { cls := .ref C, dict := od, data := .fields vs } ∧ vs[1]? = some .none ∧ Fly X E (.ref e) s1) (Fly X E) s := by
    refine wpAny_Call_Name_kw (ld_glob (X := X) I.unwish hg hm ?_ hdb)
    refine PySem.W.callWith_K (h₀ := X.base) I.ok.mod.kin c.kp (thn (ha cpos pins s σ H _ I h) fun us s1 ⟨vs, H1, I1', r, hz, q1⟩ => ⟨I1'.kIn, ?_⟩) he hpl
    have I1 : Inv X pins σ H1 s1 := I1'.unwish
    obtain ⟨hp, g, d, tk, os⟩ := s1
    have hz' : us.length ≤ sizeLine := by rw [← r.length, sizeLine_eq]; omega
    refine SX.exc_call PySem.F.excBase_ValueError (SX.bmOk W) I1.kIn (I1.kIn _ _ lk) hi hf (fun h' e hm' hle => ?_) hz'
    obtain ⟨t, het, _, _⟩ := hm'.there
    have I2 : Inv X pins σ (upd H1 e (ExN e C none)) ⟨h', g, d, tk, os⟩ := I1.laid (t' := tk) hm'.keeps hle (exN_ok het rfl)
    have q2 := q1 e (I1.hok.fresh hle)
    have r2 : Vals (V.ref e :: vs) (Value.ref e :: us) := .cons rfl r
    have hl : (Value.ref e :: us ++ []).length = ps.length := by
      have z := r2.length
      rw [FI.len _ _ _ _ q2] at z
      rw [List.append_nil]
      exact z.symm
    have hl' : (Value.ref e :: us).length = ps.length := by rw [List.append_nil] at hl; exact hl
    have bb := hb ⟨h', g, d, tk, os⟩ (Value.ref e :: us) I2.kIn hl
    rw [List.append_nil] at bb
    refine wpAny_call (codeAny_mono (FI.run _ X.stack ⟨h', g, d, tk, os⟩ _ ⟨Value.ref e :: us, []⟩ (Value.ref e :: us) (V.ref e :: vs) _ E0 (hr.make C us []) (I2.env0.make C us []) bb r2 q2) fun res s' hq => ?_)
    cases res with
    | error e => exact False.elim hq
    | ok fl =>
      cases fl with
      | next => exact False.elim hq
      | brk => exact False.elim hq
      | cont => exact False.elim hq
      | ret u =>
        obtain ⟨v, H3, I3, rv, ev, od, ee, q3⟩ := I2.after hq
        subst ev
        obtain ⟨vs', hx, h1⟩ := exN_at I3.hok ee
        refine ⟨rv, e, od, vs', rfl, I3.kIn _ _ lk, hx, h1, ?_⟩
        have I4 : Inv X pins σ (upd H3 e (ExO e C od)) { s' with heap := s'.heap, toks := s'.toks } := I3.write (x := e) (e := e) (by rw [ee]; exact True.intro) (.inl rfl) (fun b u _ z => z) ⟨_, hx⟩ (exO_ok hx)
        have I5 : Inv X [] σ (upd H3 e (ExO e C od)) s' := (show Inv X pins σ _ s' from I4).pins_of fun p hp => absurd hp (by simp)
        exact ⟨e, C, od, σ, _, rfl, I5, ⟨upd_same, vs', none, hx, h1, (fun t z => nomatch z), (fun z => nomatch z)⟩, q3⟩
  show wpAny (model X.prog X.w) X.A (exec (.Raise (some (.Call (.Name x np) (e0 :: rest) [] cpos)) none pos) X.env) _ (Fly X E) s
  rw [arm_exec_Raise]
  first
    | refine wpAny_bind (wpAny_standAt (SX.raise_made (SX.bmOk W) (I.ok.hd hc) (wpAny_bind (wpAny_mono core (fun v s1 h1 => wpAny_bind (wpAny_standAt (wpAny_pure h1))) fun _ _ z => z))))
    | (simp only [evalOpt, Option.map]; refine wpAny_bind (wpAny_standAt (SX.raise_made (SX.bmOk W) (I.ok.hd hc) (wpAny_bind (wpAny_mono core (fun v s1 h1 => wpAny_bind (wpAny_standAt (wpAny_pure h1))) fun _ _ z => z)))))
end
end L2
namespace SX
open PySem PySem.W
/-- any error class of the text -/
structure ExcAny (K : Frag) (C : Addr) (bm : List Value) : Prop where
  lk : ∃ nm q N bs hd sn sub ab col dd k0 k1 k2 k3 k5 newId, K.lookup C = some (excClassObj nm q C N bs bm hd sn sub ab col dd k0 k1 k2 k3 k5 newId)
  base : bm.contains (.type "BaseException") = true
theorem ExcC.any {K : Frag} {W C : Addr} (c : ExcC K W C) : ExcAny K C (.ref W :: vmro) := by
  obtain ⟨nm, q, N, bs, sn, sub, ab, col, dd, k0, k1, k2, k3, k5, e⟩ := c.lk
  exact ⟨⟨_, _, _, _, _, _, _, _, _, _, _, _, _, _, _, _, e⟩, (bmOk W).hasBase⟩
theorem matches_any {M : Model} {A : Around} {E : Value → Shared → Prop} {K : Frag} {C W : Addr} {bmC bmW : List Value} {s : Shared} {e : Addr} {oe : Obj} {Q : Bool → Shared → Prop} (X : K.In s.heap) (c : ExcAny K C bmC) (w : ExcAny K W bmW)
    (he : s.heap.get? e = some oe) (hcls : oe.cls = .ref C) (hq : Q ((Value.ref C :: bmC).contains (.ref W)) s) : wpAny M A (excMatches (.ref e) (.ref W)) Q E s := by
  obtain ⟨nm, q, N, bs, hd, sn, sub, ab, col, dd, k0, k1, k2, k3, k5, nid, lC⟩ := c.lk
  obtain ⟨nm', q', N', bs', hd', sn', sub', ab', col', dd', k0', k1', k2', k3', k5', nid', lW⟩ := w.lk
  have hC := X _ _ lC
  have hW := X _ _ lW
  have hcB : (Value.ref W :: bmW).contains (.type "BaseException") = true := by rw [List.contains_cons, w.base, Bool.or_true]
  have f := tc_notTuple
  obtain ⟨hp, g, d, t, os⟩ := s
  unfold excMatches
  repeat (first | (with_reducible refine wpAny_loadPart_at he ?_; rw [hcls]) | with_reducible refine wpAny_loadPart_at hW ?_ | (with_reducible refine wpAny_isSubtype_exc hW ?_; rw [hcB]) | with_reducible refine wpAny_isSubtype_exc hC ?_ | wp_step)
  cases hb : (Value.ref C :: bmC).contains (.ref W) <;> (rw [hb] at hq; wp_walk; exact hq)
end SX
namespace L2
open PySem PySem.Spec PyProof.Rows

abbrev Cx.pnw (X : Cx) (pn : List (Addr × Obj)) : Cx := { X with pn := pn }
/-- within an except suite -/
abbrev Cx.inH (X : Cx) (e : Addr) : Cx := { X with A := X.A.mark (some (.ref e)), calm := false, xe := fun _ _ => False }
section
variable {X : Cx} {pins : List (Addr × Obj)} {σ : St} {H : Hp} {s : Shared} {e : Addr}
theorem Cx.Ok.pnw {X : Cx} (ok : X.Ok) (pn : List (Addr × Obj)) : (X.pnw pn).Ok :=
  ⟨ok.mod, ok.kind, ok.glob, ok.blt, ok.above, ok.inj, ok.has, ok.cab, ok.hd, ok.frames, ok.stk, ok.exf, ok.bs, ok.bsz, ok.noex, ok.exfs, ok.funs, ok.frf⟩
theorem Cx.Ok.unpn {X : Cx} {pn : List (Addr × Obj)} (ok : (X.pnw pn).Ok) : X.Ok :=
  ⟨ok.mod, ok.kind, ok.glob, ok.blt, ok.above, ok.inj, ok.has, ok.cab, ok.hd, ok.frames, ok.stk, ok.exf, ok.bs, ok.bsz, ok.noex, ok.exfs, ok.funs, ok.frf⟩
theorem Inv.toPn (I : Inv X pins σ H s) : Inv (X.pnw (X.pn ++ pins)) [] σ H s :=
  ⟨I.ok.pnw _, I.os, I.bare, I.base, I.loc, I.cell, I.free, I.freeC, fun p hp => I.pin p (by
    have z : p ∈ (X.pn ++ pins) ++ [] := hp
    rw [List.append_nil] at z
    exact z), I.hok, I.len⟩
theorem Inv.ofPn {pl : List (Addr × Obj)} (I : Inv (X.pnw (X.pn ++ pins)) pl σ H s) : Inv X pins σ H s :=
  ⟨I.ok.unpn, I.os, I.bare, I.base, I.loc, I.cell, I.free, I.freeC, fun p hp => I.pin p (List.mem_append_left _ hp), I.hok, I.len⟩
theorem SP.ofPn {pl : List (Addr × Obj)} {E : Value → Shared → Prop} {D : Ends} {f : Flow} {s' : Shared} (h : SP ((X.pnw (X.pn ++ pins)).wish E) pl D f s') : SP X pins D f s' := by
  cases f with
  | next => obtain ⟨a, b, c, d⟩ := h; exact ⟨a, b, c.unwish.ofPn, d⟩
  | brk => obtain ⟨a, b, c, d⟩ := h; exact ⟨a, b, c.unwish.ofPn, d⟩
  | cont => obtain ⟨a, b, c, d⟩ := h; exact ⟨a, b, c.unwish.ofPn, d⟩
  | ret u => obtain ⟨v, a, b, c, d⟩ := h; exact ⟨v, a, b, c.unwish.ofPn, d⟩
theorem Cx.Ok.inH {X : Cx} (ok : X.Ok) (e : Addr) : (X.inH e).Ok :=
  ⟨ok.mod, ok.kind, ok.glob, ok.blt, ok.above, ok.inj, ok.has, ok.cab, (fun z => nomatch z), ok.frames, ok.stk, ok.exf, ok.bs, ok.bsz, ok.noex, ok.exfs, ok.funs, ok.frf⟩
theorem Inv.inH (I : Inv X pins σ H s) (e : Addr) : Inv (X.inH e) pins σ H s :=
  ⟨I.ok.inH e, I.os, I.bare, I.base, I.loc, I.cell, I.free, I.freeC, I.pin, I.hok, I.len⟩
theorem Inv.ofH (ok : X.Ok) (I : Inv (X.inH e) pins σ H s) : Inv X pins σ H s :=
  ⟨ok, I.os, I.bare, I.base, I.loc, I.cell, I.free, I.freeC, I.pin, I.hok, I.len⟩
/-- a local name goes -/
theorem name_goes {i : Nat} {n : Str} {hpos : Pos} {Q : Unit → Shared → Prop} {M : Model} {A : Around} {E' : Value → Shared → Prop} (I : Inv X pins σ H s) (hN : X.N.Nodup) (hi : X.N[i]? = some n) (hk : X.env.kindOf n = some .local)
    (h : ∀ s', Inv X pins (σ.set i none) H s' → Q () s') : wpAny M A (do bindName X.env n .none; unbindBehindTheSuite X.env n hpos) Q E' s := by
  obtain ⟨m, hn, hl⟩ := id I.loc
  have hcls : (X.env.scope.kind == .class || (X.env.scope.kind == .module && X.env.locals != X.env.globals)) = false := by rw [I.ok.kind]; rfl
  refine wpAny_nameGoes_keeps hk hn hcls fun h' v hn' hs => h _ ?_
  obtain ⟨oL, _, _, hoL, _⟩ := id hn
  have neL : ∀ b o, X.s₀.heap.get? b = some o → b ≠ X.env.locals := fun b o e => Nat.ne_of_lt (Nat.lt_of_lt_of_le (Heap.lt_size e) I.ok.above)
  refine ⟨I.ok, I.os, I.bare, ⟨fun b o e n hb hx => (hs.2 b (neL b o e)).trans (I.base.keep b o e n hb hx), fun b o e n hb hx => ?_, I.base.free, fun b o e hx => ?_, I.base.tups, I.base.frzs, I.base.tbls⟩, ⟨_, hn', fun j y v' e1 e2 e3 => ?_⟩, fun y c e => ?_, I.free, I.freeC, fun p hp => ?_, fun b ob e => ?_, by simpa using I.len⟩
  · obtain ⟨sl, e1⟩ := I.base.slot b o e n hb hx
    exact ⟨sl, (hs.2 b (neL b o e)).trans e1⟩
  · obtain ⟨o', e1⟩ := I.base.there b o e hx
    exact ⟨o', (hs.2 b (neL b o e)).trans e1⟩
  · by_cases hj : j = i
    · subst hj
      have hiσ : j < σ.length := by rw [I.len]; exact (List.getElem?_eq_some_iff.mp hi).1
      rw [List.getElem?_set_self hiσ] at e2; cases e2
    · rw [List.getElem?_set_ne (Ne.symm hj)] at e2
      obtain ⟨u', r', q⟩ := hl j y v' e1 e2 e3
      refine ⟨u', r', ?_⟩
      rcases q with ⟨k, e⟩ | ⟨k, c, e, z⟩
      · refine .inl ⟨k, ?_⟩
        have : y ≠ n := fun e => hj (nodup_ix hN e1 (e ▸ hi))
        simp [this, e]
      · exact .inr ⟨k, c, e, z.sameBut hs (I.cne y c e)⟩
  · obtain ⟨w', z⟩ := I.cell y c e
    exact ⟨w', z.sameBut hs (I.cne y c e)⟩
  · obtain ⟨e, n, ne, nf, d⟩ := I.pin p hp
    exact ⟨(hs.2 p.1 ne).trans e, n, ne, nf, d⟩
  · refine (I.hok b ob e).stay (fun c w' hc q => (hs.2 c ?_).trans q) (fun _ q => q) fun _ _ q => q
    rintro rfl
    rcases hc with hc | hc
    · rw [← hc, I.free] at e; cases e
    · rw [I.free] at hc; cases hc
end

/-- try: body except W as n: suite -/
def tTry (X : Cx) (i : Nat) (Wc : Addr) (body suite : List Stmt) : TS := fun D σ H => ∃ E : XK, (∀ pn, ∃ tb, PSs ((X.pnw pn).fly E) body tb ∧ tb D σ H) ∧
  ∀ (C e : Addr) (H' : Hp) (σ' : St), σ'.length = σ.length → (∃ od, H' e = some (ExO e C od)) → E (.ref C) (some e) H' → ∃ bm, SX.ExcAny X.K C bm ∧ (Value.ref C :: bm).contains (.ref Wc) = true ∧
    ∃ ts, PSs (X.inH e) suite ts ∧ ts { nx := fun σ2 H2 => D.nx (σ2.set i none) H2, rt := D.rt, bk := fun σ2 H2 => D.bk (σ2.set i none) H2, ct := fun σ2 H2 => D.ct (σ2.set i none) H2 } (σ'.set i (some (.ref e))) H'
section
variable {X : Cx}
theorem ps_try {i : Nat} {n x : Str} {Wc : Addr} {bmW : List Value} {body suite : List Stmt} {b0 : Stmt} {np hpos pos : Pos} (hO : OwnFr X) (hN : X.N.Nodup) (hi : X.N[i]? = some n) (hk : X.env.scope.names.lookup n = some .local)
    (hg : Gl X x) (hm : X.mg x = some (.ref Wc)) (hw : SX.ExcAny X.K Wc bmW) (hdb : (x == ("__debug__" : Str)) = false := by decide) :
    PS X (.Try body [.ExceptHandler (some (.Name x np)) (some n) (b0 :: suite) hpos] [] [] pos) (tTry X i Wc body (b0 :: suite)) := by
  intro pins s σ H D I h
  obtain ⟨E, hb, hh⟩ := h
  obtain ⟨tb, pb, qb⟩ := hb (X.pn ++ pins)
  have I1 := I.toPn
  refine wpAny_Try_except (wpAny_mono (pb [] s σ H D (I1.wish _) qb) (fun f s1 q => ?_) fun ev s1 q => ?_)
  · have q' := SP.ofPn q
    cases f with
    | next => exact wpAny_execs_nil q'
    | brk => exact q'
    | cont => exact q'
    | ret u => exact q'
  · obtain ⟨e, C, od, σ1, H1, rfl, I2, f2, q⟩ := q
    have hO' : OwnFr (X.pnw (X.pn ++ pins)) := hO
    refine fly_note (X := X.pnw (X.pn ++ pins)) hO' I2 f2 fun s3 I3 f3 => fly_set (X := X.pnw (X.pn ++ pins)) I3 f3 fun s4 I4 f4 => ?_
    have I4' : Inv X pins σ1 H1 s4 := I4.ofPn
    have hl : σ1.length = σ.length := by rw [I4'.len, I.len]
    obtain ⟨bm, cA, hcon, ts, pts, qts⟩ := hh C e H1 σ1 hl ⟨od, f4.tr⟩ q
    refine wpAny_handleBy_cons (codeAny_handlers_test ?_) (by intro z; cases z)
    have IH : Inv (X.inH e) pins σ1 H1 s4 := I4'.inH e
    refine ld_glob (X := X.inH e) IH hg hm ?_ hdb
    obtain ⟨vs, hx⟩ := exO_at I4'.hok f4.tr
    refine SX.matches_any I4'.kIn cA hw hx rfl ?_
    rw [hcon]
    refine codeAny_handlers_suite_as ?_
    refine fly_set (X := X.pnw (X.pn ++ pins)) I4 f4 fun s5 I5 f5 => ?_
    have I5' : Inv X pins σ1 H1 s5 := I5.ofPn
    refine store_ok (X := X.inH e) (v := .ref e) (I5'.inH e) hN hi (.inl hk) rfl (fun s6 I6 => ?_) (.inr hk)
    refine wpAny_mono (pts pins s6 _ H1 _ I6 qts) (fun f s7 q7 => ?_) fun _ _ z => z.elim
    show wpAny _ _ (do bindName X.env n .none; unbindBehindTheSuite X.env n hpos) _ _ s7
    cases f with
    | next =>
      obtain ⟨σ7, H7, I7, q7⟩ := q7
      exact name_goes (I7.ofH I.ok) hN hi hk fun s8 I8 => ⟨_, _, I8, q7⟩
    | brk =>
      obtain ⟨σ7, H7, I7, q7⟩ := q7
      exact name_goes (I7.ofH I.ok) hN hi hk fun s8 I8 => ⟨_, _, I8, q7⟩
    | cont =>
      obtain ⟨σ7, H7, I7, q7⟩ := q7
      exact name_goes (I7.ofH I.ok) hN hi hk fun s8 I8 => ⟨_, _, I8, q7⟩
    | ret u =>
      obtain ⟨v, σ7, H7, I7, r7, q7⟩ := q7
      exact name_goes (I7.ofH I.ok) hN hi hk fun s8 I8 => ⟨v, _, _, I8, r7, q7⟩
end
end L2
namespace L2
open PySem PySem.Spec PyProof.Rows
section
variable {X : Cx}
/-- all of a list of truths -/
theorem call_allL (hc : X.calm = true) : CallR X (.builtin "all") (fun xs H Q => ∃ (a : Addr) (bs : List Bool), xs = [.ref a] ∧ SqL X.K H a (bs.map V.bl) ∧ Q (.bl (bs.all id)) H) := by
  intro pins s σ H xs us Q I r h
  obtain ⟨a, bs, rfl, hq, q⟩ := h
  obtain ⟨u, rfl, ru⟩ := vals1 r
  cases (show u = Value.ref a from ru)
  obtain ⟨its, rv, p, hz⟩ := I.list hq
  have hl : its.length = bs.length := by rw [← rv.length, List.length_map]
  refine call_all_walk (wpAny_pyIter_list p.isList ?_)
  have ne : a ≠ s.heap.objs.size := by
    obtain ⟨o, e, _⟩ := p.isList
    exact Nat.ne_of_lt (Heap.lt_size e)
  refine ⟨_, _, _, _, _, _, fun i => bs.getD i true, rfl, Walks.list (show X.A.in1.handled = none from I.ok.hd hc) s.heap.objs.size a ne its.toArray, ⟨⟨_, Heap.get?_push_size _ rfl, rfl, rfl⟩, p.isList.at fun o e => Heap.get?_push_of_some _ e⟩, ?_, ?_⟩
  · intro i v s' Q' E' hP hQ
    have hP : its.toArray[i]? = some v := hP
    have hi : its[i]? = some v := by simpa using hP
    have hlt : i < bs.length := by rw [← hl]; exact (List.getElem?_eq_some_iff.mp hi).1
    have hb : (bs.map V.bl)[i]? = some (V.bl bs[i]) := by simp [hlt]
    obtain ⟨u', hu, ru'⟩ := rv.get hb
    rw [hi] at hu; cases hu
    cases (show v = Value.bool bs[i] from ru')
    refine wpAny_truthy_bool ?_
    have e : bs.getD i true = bs[i] := by rw [List.getD_eq_getElem?_getD, List.getElem?_eq_getElem hlt]; rfl
    rw [← e]; exact hQ
  · intro h' tk kp
    have e : (List.range its.toArray.size).all (fun i => bs.getD i true) = bs.all id := by
      rw [List.size_toArray, hl, Bool.eq_iff_iff, List.all_eq_true, List.all_eq_true]
      constructor
      · intro h x hx
        obtain ⟨i, hi, rfl⟩ := List.mem_iff_getElem.mp hx
        have := h i (List.mem_range.mpr hi)
        rw [List.getD_eq_getElem?_getD, List.getElem?_eq_getElem hi] at this
        exact this
      · intro h i hi
        have hi := List.mem_range.mp hi
        rw [List.getD_eq_getElem?_getD, List.getElem?_eq_getElem hi]
        exact h _ (List.getElem_mem hi)
    rw [e]
    refine ⟨.bl _, H, ?_, rfl, q⟩
    exact I.kept (t' := tk) fun b o e => kp b o (fun z => by
      have := Heap.lt_size e
      rw [List.mem_singleton.mp z] at this
      exact Nat.lt_irrefl _ this) (Heap.get?_push_of_some _ e)
end
end L2
namespace L2
open PySem PySem.Spec PyProof.Rows

/-! ### the names of Python's own that the text leaves as they are -/
structure Blt (mg : Str → Option Value) : Prop where
  b_len : mg "len" = none
  b_isinstance : mg "isinstance" = none
  b_all : mg "all" = none
  b_max : mg "max" = none
  b_min : mg "min" = none
  b_int : mg "int" = none
  b_str : mg "str" = none
  b_bool : mg "bool" = none
  b_tuple : mg "tuple" = none
  b_list : mg "list" = none
  b_range : mg "range" = none
  b_enumerate : mg "enumerate" = none
  b_ValueError : mg "ValueError" = none

/-! ### defs by their names -/
structure DefAt (K : PySem.W.Frag) (mg : Str → Option Value) (x : Str) (st : Stmt) (ps : List Str) : Prop where
  ex : ∃ f fd, Fun K x x st f fd ∧ Binds K fd ps [] ∧ mg x = some (.ref f)
def Calls (P : Program) (w : World) (K : PySem.W.Frag) (mg : Str → Option Value) (base : Heap) (CX : CXT) (k : Nat) (x : Str) (ps : List Str) (sp : Sp) : Prop :=
  ∃ f fd, FnOk P w K mg base CX k f fd ps sp ∧ Binds K fd ps [] ∧ mg x = some (.ref f) ∧ PySem.W.keepIn K (.ref f) = true
section
variable {P : Program} {w : World} {K : PySem.W.Frag} {mg : Str → Option Value} {base : Heap} {x : Str} {st : Stmt} {N ps : List Str} {k : Nat} {sp : Sp}
theorem DefAt.ok (D : DefAt K mg x st ps) (S : FnScope N ps (defScope st)) (len : ∀ vs H Q E, sp vs H Q E → vs.length = ps.length)
    (hbody : ∀ (f : Addr) (cdv : Value) (A : Around) (outer : List Env) (s : Shared) (H : Hp) (vs : List V) (Q : VK) (E : XK), Room k (A.deeper (envOfC x (defScope st) s.heap.objs.size f cdv)) → sp vs H Q E →
      ∃ t, PSs (cxOf CX0 P w K mg base N x (defScope st) f cdv A outer s H E).nox (defBody st) t ∧ t { nx := fun _ H' => Q .non H', rt := Q } (start N vs) H) : Calls P w K mg base CX0 (k + 1) x ps sp := by
  obtain ⟨f, fd, F, b, m⟩ := D.ex
  exact ⟨f, fd, F.ok S len (hbody f), b, m, F.kp⟩
theorem DefAt.okX (D : DefAt K mg x st ps) (S : FnScope N ps (defScope st)) (len : ∀ vs H Q E, sp vs H Q E → vs.length = ps.length)
    (hbody : ∀ (f : Addr) (cdv : Value) (A : Around) (outer : List Env) (s : Shared) (H : Hp) (vs : List V) (Q : VK) (E : XK), Room k (A.deeper (envOfC x (defScope st) s.heap.objs.size f cdv)) → sp vs H Q E →
      ∃ t, PSs ((cxOf (CXe P w) P w K mg base N x (defScope st) f cdv A outer s H E).fly E) (defBody st) t ∧ t { nx := fun _ H' => Q .non H', rt := Q } (start N vs) H) : Calls P w K mg base (CXe P w) (k + 1) x ps sp := by
  obtain ⟨f, fd, F, b, m⟩ := D.ex
  exact ⟨f, fd, F.okX S len (hbody f), b, m, F.kp⟩
theorem Calls.imp {CX : CXT} {sp' : Sp} (C : Calls P w K mg base CX k x ps sp) (h : ∀ vs H Q E, sp' vs H Q E → sp vs H Q E) : Calls P w K mg base CX k x ps sp' := by
  obtain ⟨f, fd, F, b, m, kp⟩ := C
  exact ⟨f, fd, F.imp h, b, m, kp⟩
end
section
variable {X : Cx} {CX : CXT} {k : Nat} {x : Str} {ps : List Str} {sp : Sp} {E : XK} {p pos : Pos} {e : Expr} {es : List Expr} {t : TA}
theorem pe_fn (C : Calls X.prog X.w X.K X.mg X.base CX k x ps sp) (hr : Room k X.A) (hg : Gl X x) (hx : Passes CX X E) (ha : PA X (e :: es) t) (hdb : (x == ("__debug__" : Str)) = false := by decide)
    (he : starEach (e :: es) X.env = (false, eval e X.env) :: starEach es X.env := by rfl) (hpl : (backTo pos (starEach es X.env)).any (·.1) = false := by rfl) : PE X (.Call (.Name x p) (e :: es) [] pos) (tCall sp [] E t) := by
  obtain ⟨f, fd, F, b, m, kp⟩ := C
  exact pe_call F hr hg m kp b .nil hx ha hdb he hpl
end

/-! ### an error class with an __init__ of its own -/
def spI (C : Addr) (fs : List Str) : Sp := fun vs H Q _ => ∃ e xs, vs = .ref e :: xs ∧ xs.length = fs.length ∧ H e = some (ExN e C none) ∧ ∀ d, H d = none → d ≠ e → Q .non (upd (upd H e (ExN e C (some d))) d (.xd (fs.zip xs)))
structure ErrAt (P : Program) (w : World) (K : PySem.W.Frag) (mg : Str → Option Value) (base : Heap) (x : Str) (fs : List Str) (W C : Addr) : Prop where
  c : SX.ExcC K W C
  m : mg x = some (.ref C)
  na : ∀ f ∈ fs, PySem.W.findIn K (.ref C) f = some none
  i : ∃ fI fdI, FnOk P w K mg base CX0 1 fI fdI ("self" :: fs) (spI C fs) ∧ PySem.W.findIn K (.ref C) "__init__" = some (some (.ref fI)) ∧ PySem.W.typeIn K (.ref fI) = some (.type "function") ∧ Binds K fdI ("self" :: fs) []
theorem upd_comm {H : Hp} {a b : Addr} {o u : HO} (h : a ≠ b) : upd (upd H a o) b u = upd (upd H b u) a o := by
  funext c
  unfold upd
  by_cases h1 : c = a
  · subst h1; rw [if_neg h, if_pos rfl, if_pos rfl]
  · rw [if_neg h1, if_neg h1]
theorem ps_raiseX {X : Cx} {E : XK} {fs : List Str} {W C : Addr} {x : Str} {np cpos pos : Pos} {e0 : Expr} {rest : List Expr} {ta : TA} (hc : X.calm = true) (er : ErrAt X.prog X.w X.K X.mg X.base x fs W C) (hg : Gl X x) (hr : Room 2 X.A) (ha : PA (X.fly E) (e0 :: rest) ta)
    (hdb : (x == ("__debug__" : Str)) = false := by decide) (he : starEach (e0 :: rest) X.env = (false, eval e0 X.env) :: starEach rest X.env := by rfl) (hpl : (backTo cpos (starEach rest X.env)).any (·.1) = false := by rfl) :
    PS (X.fly E) (.Raise (some (.Call (.Name x np) (e0 :: rest) [] cpos)) none pos) (tRaise C (spI C fs) E ta) := by
  obtain ⟨fI, fdI, FI, hi, hf, hb⟩ := er.i
  exact ps_raise hc er.c hg er.m FI hi hf hb hr ha hdb he hpl
theorem raise_read {C : Addr} {fs : List Str} {vs : List V} {E : XK} {H1 : Hp} (hl : vs.length = fs.length) (hz : vs.length ≤ 1000)
    (h : ∀ e d, H1 e = none → H1 d = none → d ≠ e → E (.ref C) (some e) (upd (upd H1 e (ExO e C (some d))) d (.xd (fs.zip vs)))) :
    vs.length ≤ 1000 ∧ ∀ e, H1 e = none → spI C fs (.ref e :: vs) (upd H1 e (ExN e C none)) (fun v H2 => v = .non ∧ ∃ od, H2 e = some (ExN e C od) ∧ E (.ref C) (some e) (upd H2 e (ExO e C od))) E0 := by
  refine ⟨hz, fun e he => ⟨e, vs, rfl, hl, upd_same, fun d hd hde => ⟨rfl, some d, ?_, ?_⟩⟩⟩
  · rw [upd_ne (Ne.symm hde), upd_same]
  · have hd' : H1 d = none := by rw [upd_ne hde] at hd; exact hd
    have := h e d he hd' hde
    rw [upd_upd, upd_comm (a := d) (b := e) hde, upd_upd]
    exact this
/-! ### data, taken apart -/
theorem DatV.tup_of {K : PySem.W.Frag} {H : Hp} {v : V} {ds : List PyData} (h : DatV K H v (.tuple ds)) : ∃ a xs, v = .ref a ∧ SqT K H a xs ∧ DatVs K H xs ds := by
  cases h with
  | tup h1 h2 => exact ⟨_, _, rfl, h1, h2⟩
theorem DatV.lst_of {K : PySem.W.Frag} {H : Hp} {v : V} {ds : List PyData} (h : DatV K H v (.list ds)) : ∃ a xs, v = .ref a ∧ SqL K H a xs ∧ DatVs K H xs ds := by
  cases h with
  | lst h1 h2 => exact ⟨_, _, rfl, h1, h2⟩
theorem DatV.int_of {K : PySem.W.Frag} {H : Hp} {v : V} {i : Int} (h : DatV K H v (.int i)) : v = .int i := by cases h; rfl
theorem DatV.str_of {K : PySem.W.Frag} {H : Hp} {v : V} {i : Str} (h : DatV K H v (.str i)) : v = .str i := by cases h; rfl
theorem DatVs.cons_of {K : PySem.W.Frag} {H : Hp} {xs : List V} {d : PyData} {ds : List PyData} (h : DatVs K H xs (d :: ds)) : ∃ x t, xs = x :: t ∧ DatV K H x d ∧ DatVs K H t ds := by
  cases h with
  | cons h1 h2 => exact ⟨_, _, rfl, h1, h2⟩
theorem DatVs.nil_of {K : PySem.W.Frag} {H : Hp} {xs : List V} (h : DatVs K H xs []) : xs = [] := by cases h; rfl

/-! ### the names of a block -/
theorem KeepsV.nil : KeepsV [] [] := ⟨rfl, fun _ _ h => by simp at h⟩
theorem KeepsV.own {τ ρ : St} {u : Option V} (h : KeepsV τ ρ) : KeepsV (none :: τ) (u :: ρ) := ⟨by simp [h.1], fun i v e => by
  cases i with
  | zero => simp at e
  | succ i => simpa using h.2 i v (by simpa using e)⟩
theorem KeepsV.cap {τ ρ : St} {u : Option V} (h : KeepsV τ ρ) : KeepsV (u :: τ) (u :: ρ) := ⟨by simp [h.1], fun i v e => by
  cases i with
  | zero => simpa using e
  | succ i => simpa using h.2 i v (by simpa using e)⟩
theorem KeepsV.nil_of {σ : St} (h : KeepsV [] σ) : σ = [] := List.length_eq_zero_iff.mp h.1
theorem KeepsV.own_of {τ σ : St} (h : KeepsV (none :: τ) σ) : ∃ u ρ, σ = u :: ρ ∧ KeepsV τ ρ := by
  cases σ with
  | nil => have := h.1; simp at this
  | cons u ρ => exact ⟨u, ρ, rfl, by have := h.1; simpa using this, fun i v e => by simpa using h.2 (i + 1) v (by simpa using e)⟩
theorem KeepsV.cap_of {τ σ : St} {v : V} (h : KeepsV (some v :: τ) σ) : ∃ ρ, σ = some v :: ρ ∧ KeepsV τ ρ := by
  cases σ with
  | nil => have := h.1; simp at this
  | cons u ρ =>
    have e := h.2 0 v (by simp)
    simp at e
    subst e
    exact ⟨ρ, rfl, by have := h.1; simpa using this, fun i v e => by simpa using h.2 (i + 1) v (by simpa using e)⟩

/-! ### a list or a tuple -/
def SqS (K : PySem.W.Frag) (H : Hp) (a : Addr) (xs : List V) : Prop := SqL K H a xs ∨ SqT K H a xs
theorem SqS.same {K : PySem.W.Frag} {H H' : Hp} {a : Addr} {xs : List V} (e : Same H H') (h : SqS K H a xs) : SqS K H' a xs := h.imp (SqL.same e) (SqT.same e)
theorem PI.or {X : Cx} {tg iter : Expr} {w1 w2 : TI} (h1 : PI X tg iter w1) (h2 : PI X tg iter w2) : PI X tg iter (fun σ H R => w1 σ H R ∨ w2 σ H R) := fun pins s σ H R I h => h.elim (h1 pins s σ H R I) (h2 pins s σ H R I)
/-- an iterator over a list or a tuple -/
def iSeq (K : PySem.W.Frag) (tl : TE) : TI := fun σ H R => tl σ H fun x H1 => ∃ a, x = .ref a ∧ (((∃ xs, SqL K H1 a xs) ∧ R (Itl K a) H1) ∨ ((∃ xs, SqT K H1 a xs) ∧ R (Itt K a) H1))
theorem pi_seq {X : Cx} {tg l : Expr} {tl : TE} (hl : PE X l tl) : PI X tg l (iSeq X.K tl) := by
  intro pins s σ H R I h
  refine thn (hl pins s σ H _ I h) fun v s1 ⟨x, H1, I1, r1, q1⟩ => ?_
  obtain ⟨a, e, q⟩ := q1
  subst e
  cases r1
  rcases q with ⟨⟨xs, hq⟩, q⟩ | ⟨⟨xs, hq⟩, q⟩
  · obtain ⟨its, rv, p, hz⟩ := I1.list hq
    refine wpAny_pyIter_list p.isList ?_
    refine ⟨s1.heap.objs.size, [s1.heap.objs.size], _, _, H1, rfl, I1.kept (t' := s1.toks) fun b o e => Heap.get?_push_of_some _ e, turn_list a _, ⟨_, Heap.get?_push_size _ rfl, rfl, rfl⟩, fun b hb => ?_, q⟩
    obtain rfl := List.mem_singleton.mp hb
    exact I1.fpOk (Nat.le_refl _) (I1.hok.fresh (Nat.le_refl _))
  · obtain ⟨its, rv, p, hz⟩ := I1.tuple hq
    refine wpAny_pyIter_tuple (show s1.heap.IsTuple a its.toArray from p) ?_
    refine ⟨s1.heap.objs.size, [s1.heap.objs.size], _, _, H1, rfl, I1.kept (t' := s1.toks) fun b o e => Heap.get?_push_of_some _ e, turn_tuple a _, ⟨_, Heap.get?_push_size _ rfl, rfl, rfl⟩, fun b hb => ?_, q⟩
    obtain rfl := List.mem_singleton.mp hb
    exact I1.fpOk (Nat.le_refl _) (I1.hok.fresh (Nat.le_refl _))
/-- over a list or tuple that stays: the comprehension's form, and the loop's -/
theorem comp_seq {X : Cx} {K : PySem.W.Frag} {N : List Str} {scope : Scope} {js : List (Option Nat)} {tg elt : Expr} {ifs : List Expr} {σ : St} {Q : VK} {a : Addr} {xs : List V} {H1 : Hp} (hS : SqS K H1 a xs) (W : Nat → List V → Hp → Prop) (hz : xs.length ≤ sizeLine) (w0 : W 0 [] H1)
    (hl : ∀ i ys H, i ≤ xs.length → W i ys H → ys.length ≤ i ∧ Same H1 H)
    (step : ∀ i x ys H, xs[i]? = some x → W i ys H → BlockOk X N scope js tg elt ifs σ x H (compR W i ys))
    (done : ∀ ys H, W xs.length ys H → ∀ p, H p = none → Q (.ref p) (upd H p (.lst ys))) :
    ((∃ xs, SqL K H1 a xs) ∧ compK X N scope js tg elt ifs σ Q (Itl K a) H1) ∨
    ((∃ xs, SqT K H1 a xs) ∧ compK X N scope js tg elt ifs σ Q (Itt K a) H1) := by
  rcases hS with h | h
  · exact .inl ⟨⟨xs, h⟩, comp_list W hz w0 (fun i ys H h1 w => ⟨(hl i ys H h1 w).1, h.same (hl i ys H h1 w).2⟩) step done⟩
  · exact .inr ⟨⟨xs, h⟩, comp_tup W hz w0 (fun i ys H h1 w => ⟨(hl i ys H h1 w).1, h.same (hl i ys H h1 w).2⟩) step done⟩
theorem for_seq {K : PySem.W.Frag} {a : Addr} {xs : List V} {g : TG} {tb : TS} {D : Ends} {σ : St} {H1 : Hp} (hS : SqS K H1 a xs) (Pv : Nat → St → Hp → Prop) (h0 : Pv 0 σ H1) (hl : ∀ i σ H, i ≤ xs.length → Pv i σ H → Same H1 H)
    (hs : ∀ i x σ H, xs[i]? = some x → Pv i σ H → g x σ H fun σ2 H2 => tb { D with nx := Pv (i + 1), ct := Pv (i + 1), bk := D.nx } σ2 H2) (hd : ∀ σ H, Pv xs.length σ H → D.nx σ H) :
    ((∃ xs, SqL K H1 a xs) ∧ ∃ W : Nat → Nat → St → Hp → Prop, (∃ m, W 0 m σ H1) ∧ ∀ i m σ H, W i m σ H →
      ((Itl K a).stop i H ∧ D.nx σ H) ∨ ((Itl K a).go i H ∧ ∃ N : St → Hp → Prop, (∀ σ' H', N σ' H' → ∃ m', m' < m ∧ W (i + 1) m' σ' H') ∧ ∀ x H', (Itl K a).yld i H x H' → g x σ H' fun σ2 H2 => tb { D with nx := N, ct := N, bk := D.nx } σ2 H2)) ∨
    ((∃ xs, SqT K H1 a xs) ∧ ∃ W : Nat → Nat → St → Hp → Prop, (∃ m, W 0 m σ H1) ∧ ∀ i m σ H, W i m σ H →
      ((Itt K a).stop i H ∧ D.nx σ H) ∨ ((Itt K a).go i H ∧ ∃ N : St → Hp → Prop, (∀ σ' H', N σ' H' → ∃ m', m' < m ∧ W (i + 1) m' σ' H') ∧ ∀ x H', (Itt K a).yld i H x H' → g x σ H' fun σ2 H2 => tb { D with nx := N, ct := N, bk := D.nx } σ2 H2)) := by
  rcases hS with h | h
  · exact .inl ⟨⟨xs, h⟩, for_list Pv h0 (fun i σ H h1 w => h.same (hl i σ H h1 w)) hs hd⟩
  · exact .inr ⟨⟨xs, h⟩, for_tup Pv h0 (fun i σ H h1 w => h.same (hl i σ H h1 w)) hs hd⟩
theorem for_enum {K : PySem.W.Frag} {a : Addr} {xs : List V} {g : TG} {tb : TS} {D : Ends} {σ : St} {H : Hp} (Pv : Nat → St → Hp → Prop) (h0 : Pv 0 σ H) (hl : ∀ i σ H, i ≤ xs.length → Pv i σ H → SqL K H a xs)
    (hs : ∀ i x σ H p, xs[i]? = some x → Pv i σ H → H p = none → g (.ref p) σ (upd H p (.tup [.int i, x])) fun σ2 H2 => tb { D with nx := Pv (i + 1), ct := Pv (i + 1), bk := D.nx } σ2 H2) (hd : ∀ σ H, Pv xs.length σ H → D.nx σ H) :
    ∃ W : Nat → Nat → St → Hp → Prop, (∃ m, W 0 m σ H) ∧ ∀ i m σ H, W i m σ H →
      ((Ite K a).stop i H ∧ D.nx σ H) ∨ ((Ite K a).go i H ∧ ∃ N : St → Hp → Prop, (∀ σ' H', N σ' H' → ∃ m', m' < m ∧ W (i + 1) m' σ' H') ∧ ∀ x H', (Ite K a).yld i H x H' → g x σ H' fun σ2 H2 => tb { D with nx := N, ct := N, bk := D.nx } σ2 H2) := by
  refine ⟨fun i m σ H => m = xs.length - i ∧ i ≤ xs.length ∧ Pv i σ H, ⟨xs.length, by simp, Nat.zero_le _, h0⟩, ?_⟩
  rintro i m σ H ⟨rfl, hi, p⟩
  have q := hl i σ H hi p
  by_cases hlt : i < xs.length
  · refine .inr ⟨⟨xs, xs[i], q, by simp [hlt]⟩, Pv (i + 1), fun σ' H' p' => ⟨xs.length - (i + 1), by omega, rfl, hlt, p'⟩, fun x H' y => ?_⟩
    obtain ⟨pp, v, h1, rfl, rfl, y⟩ := y
    exact hs i v σ _ pp (y xs q) p h1
  · have e : i = xs.length := by omega
    subst e
    exact .inl ⟨⟨xs, q, Nat.le_refl _⟩, hd σ H p⟩
end L2
namespace L2
open PySem PySem.Spec PyProof.Rows

/-! ### // by a positive divisor that is no small one -/
def CDivW (i j : Int) : Prop := 0 < j ∧ j < 2 ^ 64
theorem op_fdivW {X : Cx} : OpR X (binaryOp .FloorDiv) (rI CDivW fun i j => .int (i / j)) := opI fun i j _ _ _ _ _ hc q => by
  have h1 : (0 : Int) < j := hc.1
  have h2 : j < 2 ^ 64 := hc.2
  have h3 : j.natAbs < 2 ^ 64 := by omega
  have h4 : j.natAbs.log2 < 64 := (Nat.log2_lt (by omega)).mpr h3
  exact floordiv_int (by omega) (by rw [Int.fdiv_eq_ediv_of_nonneg i (by omega)]; exact q) (.inl (PyProof.noPylong_of_log2 (by omega)))
/-- a callee that may raise, where it does not -/
theorem passN {X : Cx} {P : Program} {w : World} : Passes (CXe P w) X E0 := by
  rintro pins σ H s ev s' I ⟨e, C, od, H', rfl, os, bare, un, hok, he, hv, q⟩
  exact q.elim
/-! ### texts: a slice, index, enumerate -/
section
variable {X : Cx}
def rSlS : V → Option Int → Option Int → Hp → VK → Prop := fun x lo hi H Q => ∃ z, x = .str z ∧ z.length ≤ sizeLine ∧ Q (.str (Txt.slice z lo hi)) H
theorem part_of {v : Value} {o : Option Int} (h : IsPart v o) : ∃ l : Option (Int × Tok), partValue l = v ∧ l.map (·.1) = o := by
  cases h with
  | none => exact ⟨none, rfl, rfl⟩
  | int i t => exact ⟨some (i, t), rfl, rfl⟩
theorem sl_str : SlR X rSlS := by
  intro pins s σ H x v vl vu lo hi sl Q I rx hs pl pu h
  obtain ⟨z, rfl, hz, q⟩ := h
  obtain ⟨t, rfl⟩ := rx
  obtain ⟨l, rfl, el⟩ := part_of pl
  obtain ⟨u, rfl, eu⟩ := part_of pu
  obtain ⟨o, ho, hc, hd⟩ := hs
  refine ⟨"str", _, PyProof.Rows.slot_str_getitem.lookup, rfl, ?_⟩
  refine wpAny_getItem_str_slice (l := l) (u := u) (st := none) ⟨o, ho, hc, hd⟩ rfl ?_
  have le := Txt.slice_le z lo hi
  unfold Txt.slice at q le
  unfold sliceMade slicePicked
  rw [el, eu]
  simp only [beq_self_eq_true, Bool.true_and, Option.map_none, Option.getD_none] at q le ⊢
  by_cases hb : ((Builtin.Str.strSliceIndices lo hi 1 z.length).length == z.length) = true
  · rw [if_pos hb] at q ⊢
    exact ⟨.str z, H, I, ⟨t, rfl⟩, q⟩
  · rw [if_neg hb] at q le ⊢
    exact ⟨Nat.le_trans le hz, .str _, H, I.tok _, ⟨_, rfl⟩, q⟩
/-- z.index(y) where it is there -/
def rIndex : V → List V → Hp → VK → Prop := fun x vs H Q => ∃ z y i rest, x = .str z ∧ vs = [.str y] ∧ Builtin.Str.occurrences z y 0 z.length 1 = i :: rest ∧ Q (.int i) H
theorem mt_index : MtR X "str.index" rIndex := by
  intro pins s σ H x vs v us Q I rx rv h
  obtain ⟨z, y, i, rest, rfl, rfl, ho, q⟩ := h
  obtain ⟨t, rfl⟩ := rx
  obtain ⟨u, rfl, tu, rfl⟩ := rv.one
  exact call_gives F.slot_str_index rfl F.entry_str_index (F.args_str_index_2 _ _) (gives_str_index z y t tu i rest ho) ⟨.int i, H, I.tok _, ⟨_, rfl⟩, q⟩
/-! ### enumerate over a text -/
def Ity (z : Str) : It :=
  ⟨fun i _ => i < z.cps.size, fun i H x H' => ∃ p c, H p = none ∧ x = .ref p ∧ H' = upd H p (.tup [.int i, .str ⟨#[c]⟩]) ∧ z.cps[i]? = some c, fun i _ => i = z.cps.size⟩
theorem turn_enumS {P : Program} {w : World} {K : PySem.W.Frag} {es : List Expr} {k1} {tpos : Pos} (z : Str) (t : Tok) (T : String) (hT : ∀ A : Around, A.handled = none → ∀ it, Draws P w A it [it] z.cps.size (fun i v => ∃ c u, z.cps[i]? = some c ∧ v = Value.str { cps := #[c] } u) fun i h => h.IsStrIter it T z t i)
    (e it : Addr) (hei : e ≠ it) : Turn P w K (.Tuple es k1 tpos) (Ity z) [e, it] e (fun i h => (∃ old, IsEnum h e it i old) ∧ h.IsStrIter it T z t i) where
  mem := by simp
  obj := fun i h st b hb => by
    obtain ⟨⟨old, s1⟩, o, e2, c, d⟩ := st
    rcases List.mem_cons.mp hb with z | z
    · subst z
      exact ⟨_, s1, fun v z => by
        have z' : Data.fields _ = Data.cell v := z
        cases z'⟩
    · obtain rfl : b = it := by simpa using z
      exact ⟨o, e2, fun v z => by rw [d] at z; cases z⟩
  keep := fun i h h' st k => by
    obtain ⟨⟨old, s1⟩, o, e2, c, d⟩ := st
    exact ⟨⟨old, k e (by simp) _ s1⟩, o, k it (by simp) o e2, c, d⟩
  item := by
    intro X hP hw hK hc i pins s σ H E I hf st hg
    subst hP hw hK
    obtain ⟨⟨old, s1⟩, s2⟩ := st
    obtain ⟨f0, f1, f2, f3, f4, f5⟩ := hf e (by simp)
    obtain ⟨g0, g1, g2, g3, g4, g5⟩ := hf it (by simp)
    refine wpAny_pyNext_enum_itemD (hT X.A.in1 (I.ok.hd hc) it) s1 s2 hg hei (by simpa using hei) fun u h' tk ⟨c, tc, hcc, hu⟩ so si st hz' kp => ?_
    subst hu
    refine ⟨_, rfl, wpAny_letOwnedTupleGo_enum so fun h2 se sb => ?_⟩
    have ne1 : s.heap.objs.size ≠ e := Nat.ne_of_gt (Heap.lt_size s1)
    have hT2 : h2.get? s.heap.objs.size = some { cls := .type "tuple", data := .seq #[.int i tk, .str ⟨#[c]⟩ tc] } := (sb.2 _ ne1).trans st
    have fT : H s.heap.objs.size = none := I.hok.fresh (Nat.le_refl _)
    have kp2 : ∀ b o, b ≠ e → b ≠ it → s.heap.get? b = some o → h2.get? b = some o := fun b o h1 h2' q => (sb.2 b h1).trans (kp b o h1 h2' q)
    have hok2 : HOk X.prog X.w H h2 := fun b uu q => by
      refine (I.hok b uu q).stay (fun c v hc q' => kp2 c v ?_ ?_ q') (fun _ q => q) fun _ _ q => q
      · rcases hc with z | z
        · rw [z]; exact fun zz => by rw [zz, f0] at q; cases q
        · exact fun zz => by rw [zz, f0] at z; cases z
      · rcases hc with z | z
        · rw [z]; exact fun zz => by rw [zz, g0] at q; cases q
        · exact fun zz => by rw [zz, g0] at z; cases z
    have hokT : HOk X.prog X.w (upd H s.heap.objs.size (.tup [.int i, .str ⟨#[c]⟩])) h2 := HOk.track hok2 fT ⟨by show 2 ≤ sizeLine; decide, [.int i tk, .str ⟨#[c]⟩ tc], .cons ⟨_, rfl⟩ (.cons ⟨_, rfl⟩ .nil), ⟨_, hT2, rfl, _, rfl⟩⟩
    have ltT : ∀ b uu, H b = some uu → b ≠ s.heap.objs.size := fun b uu q => ne_of_none q fT
    have I2 : Inv X pins σ (upd H s.heap.objs.size (.tup [.int i, .str ⟨#[c]⟩])) { s with heap := h2, gens := s.gens, drawn := s.drawn, toks := tk + 1 } := by
      refine I.step (ch := [e, it]) (fun b hb => ?_) (fun b o _ _ hc q _ => kp2 b o (fun z => hc (by simp [z])) (fun z => hc (by simp [z])) q) (fun b o _ _ hc q _ => ⟨o.slots, kp2 b o (fun z => hc (by simp [z])) (fun z => hc (by simp [z])) q⟩)
        (fun b o _ q n => by rw [upd_ne (Nat.ne_of_lt (Heap.lt_size q))]; exact n) (fun b o hc q => ⟨o, kp2 b o (fun z => hc (by simp [z])) (fun z => hc (by simp [z])) q⟩) (fun b ys q => by rw [upd_ne (ltT b _ q)]; exact q) (fun b o uu q => by rw [upd_ne (ltT b _ q)]; exact q)
        (fun b ps q => ⟨#[], by rw [upd_ne (ltT b _ q), q]; simp⟩) (fun m hm => ?_) hokT I.bare
      · rcases List.mem_cons.mp hb with z | z
        · subst z; exact ⟨f3, f1, f4, f5⟩
        · obtain rfl : b = it := by simpa using z
          exact ⟨g3, g1, g4, g5⟩
      · obtain ⟨o, es', ep, ho, r⟩ := hm
        exact ⟨o, es', ep, kp2 _ o (Ne.symm f1) (Ne.symm g1) ho, r⟩
    refine ⟨.ref s.heap.objs.size, _, I2, rfl, ⟨_, c, fT, rfl, rfl, hcc⟩, ⟨⟨_, by simpa using se⟩, ?_⟩, fun b hb => ?_⟩
    · obtain ⟨o, q1, q2, q3⟩ := si
      exact ⟨o, (sb.2 it hei.symm).trans q1, q2, q3⟩
    · rcases List.mem_cons.mp hb with z | z
      · subst z; rw [upd_ne (Ne.symm ne1)]; exact f0
      · obtain rfl : b = it := by simpa using z
        obtain ⟨o, q, _⟩ := s2
        rw [upd_ne (Nat.ne_of_lt (Heap.lt_size q))]; exact g0
  done := by
    intro X hP hw hK hc i pins s σ H E I hf st hg
    subst hP hw hK
    obtain ⟨⟨old, s1⟩, s2⟩ := st
    obtain ⟨g0, g1, g2, g3, g4, g5⟩ := hf it (by simp)
    have hg : i = z.cps.size := hg
    subst hg
    exact wpAny_pyNext_enum_endD (hT X.A.in1 (I.ok.hd hc) it) s1 s2 fun h' eb => ⟨rfl, I.turned (t' := s.toks) (fun b o hb q => eb b o hb q) g0 g1 g3 g4 g5⟩
  self := fun _ _ _ _ _ st h => wpAny_pyIter_enum st.1.choose_spec h
def iEnumS (ta : TA) : TI := fun σ H R => ta σ H fun vs H1 => ∃ z, vs = [.str z] ∧ R (Ity z) H1
theorem pi_enumS {es : List Expr} {k1} {tpos : Pos} {a : Expr} {ta : TA} {p pos : Pos} (hg : Gl X "enumerate") (hm : X.mg "enumerate" = none) (ha : PA X [a] ta) (hs : starEach [a] X.env = [(false, eval a X.env)] := by rfl) :
    PI X (.Tuple es k1 tpos) (.Call (.Name "enumerate" p) [a] [] pos) (iEnumS ta) := by
  intro pins s σ H R I h
  refine Call_ (ld_blt I hg hm PyProof.Rows.boot_enumerate (PyProof.Rows.callWith_type1 (thn (ha pos pins s σ H _ I h) fun us s1 ⟨vs, H1, I1, r1, q1⟩ => ?_) hs rfl))
  obtain ⟨z, e, q⟩ := q1
  subst e
  obtain ⟨u, rfl, t, rfl⟩ := vals1 r1
  have hT : ∀ A : Around, A.handled = none → ∀ it, Draws X.prog X.w A it [it] z.cps.size (fun i v => ∃ c u, z.cps[i]? = some c ∧ v = Value.str { cps := #[c] } u) fun i h => h.IsStrIter it (strIterType z) z t i := fun A hA it => by
    unfold strIterType
    split
    · exact Draws.strAscii hA it z t
    · exact Draws.strWide hA it z t
  refine call_enumerate_str fun h' se si hz' kp => ?_
  have I2 : Inv X pins σ H1 { s1 with heap := h' } := I1.kept (t' := s1.toks) kp
  refine wpAny_pyIter_enum se ?_
  refine ⟨s1.heap.objs.size + 1, [s1.heap.objs.size + 1, s1.heap.objs.size], _, _, H1, rfl, I2, turn_enumS z t _ hT _ _ (Nat.ne_of_gt (Nat.lt_succ_self _)), ⟨⟨_, se⟩, si⟩, fun b hb => ?_, q⟩
  rcases List.mem_cons.mp hb with z | z
  · subst z
    exact I1.fpOk (Nat.le_succ _) (I1.hok.fresh (Nat.le_succ _))
  · obtain rfl : b = s1.heap.objs.size := by simpa using z
    exact I1.fpOk (Nat.le_refl _) (I1.hok.fresh (Nat.le_refl _))
theorem for_enumS {z : Str} {g : TG} {tb : TS} {D : Ends} {σ : St} {H : Hp} (Pv : Nat → St → Hp → Prop) (h0 : Pv 0 σ H)
    (hs : ∀ i c σ H p, z.cps[i]? = some c → Pv i σ H → H p = none → g (.ref p) σ (upd H p (.tup [.int i, .str ⟨#[c]⟩])) fun σ2 H2 => tb { D with nx := Pv (i + 1), ct := Pv (i + 1), bk := D.nx } σ2 H2) (hd : ∀ σ H, Pv z.cps.size σ H → D.nx σ H) :
    ∃ W : Nat → Nat → St → Hp → Prop, (∃ m, W 0 m σ H) ∧ ∀ i m σ H, W i m σ H →
      ((Ity z).stop i H ∧ D.nx σ H) ∨ ((Ity z).go i H ∧ ∃ N : St → Hp → Prop, (∀ σ' H', N σ' H' → ∃ m', m' < m ∧ W (i + 1) m' σ' H') ∧ ∀ x H', (Ity z).yld i H x H' → g x σ H' fun σ2 H2 => tb { D with nx := N, ct := N, bk := D.nx } σ2 H2) := by
  refine ⟨fun i m σ H => m = z.cps.size - i ∧ i ≤ z.cps.size ∧ Pv i σ H, ⟨z.cps.size, by simp, Nat.zero_le _, h0⟩, ?_⟩
  rintro i m σ H ⟨rfl, hi, p⟩
  by_cases hlt : i < z.cps.size
  · refine .inr ⟨hlt, Pv (i + 1), fun σ' H' p' => ⟨z.cps.size - (i + 1), by omega, rfl, hlt, p'⟩, fun x H' y => ?_⟩
    obtain ⟨pp, c, h1, rfl, rfl, y⟩ := y
    exact hs i c σ _ pp y p h1
  · have e : i = z.cps.size := by omega
    subst e
    exact .inl ⟨rfl, hd σ H p⟩

/-! ### isinstance of an exception, of several classes -/
def rIsT (K : PySem.W.Frag) : List V → Hp → VK → Prop := fun xs H Q => ∃ (a W C d : Addr) (fs : List (Str × V)) (p : Addr) (as : List Addr) (b : Bool), xs = [.ref a, .ref p] ∧ SX.ExcC K W C ∧ H a = some (ExO a C (some d)) ∧ H d = some (.xd fs) ∧ SqT K H p (as.map V.ref) ∧ PySem.W.kitAny K (.ref C) (as.map Value.ref) = some b ∧ Q (.bl b) H
theorem vals_refs : ∀ {as : List Addr} {us : List Value}, Vals (as.map V.ref) us → us = as.map Value.ref
  | [], _, .nil => rfl
  | a :: as, _, .cons r t => by rw [vals_refs t]; cases r; rfl
theorem call_isinstT : CallR X (.builtin "isinstance") (rIsT X.K) := by
  intro pins s σ H xs us Q I r h
  obtain ⟨a, W, C, d, fs, p, as, b, rfl, cc, ea, ed, hp, e, q⟩ := h
  obtain ⟨u, v, rfl, ru, rv⟩ := vals2 r
  cases (show u = Value.ref a from ru)
  cases (show v = Value.ref p from rv)
  obtain ⟨vs, hx⟩ := exO_at I.hok ea
  obtain ⟨mA, hns, r⟩ := (show ObjOk X.prog X.w H s.heap d (.xd fs) from I.hok d _ ed)
  obtain ⟨od, hod, _⟩ := lookIn_ns hns
  obtain ⟨its, r1, ht, _⟩ := I.tuple hp
  obtain ⟨⟨oc, odt, odata, osl⟩, eo, hc, n, hdt⟩ := ht
  cases (show oc = .type "tuple" from hc)
  cases (show odata = .seq its.toArray n from hdt)
  rw [← vals_refs r1] at e
  exact PySem.W.kia_tup (SX.kitx_exc (vs := vs) (od := some d) (o := some od) cc) I.kIn ⟨hx, rfl, rfl, hod⟩ eo e (fun z => nomatch z) fun tk => ⟨.bl b, H, I.tok _, rfl, q⟩
end

/-- isinstance of a tuple that is read -/
theorem call_isinstQ {X : Cx} : CallR X (.builtin "isinstance") (fun xs H Q => ∃ a ys c cv b, xs = [.ref a, c] ∧ SqT X.K H a ys ∧ clsV c = some cv ∧ PySem.W.kitOne X.K (.type "tuple") cv = some b ∧ Q (.bl b) H) := by
  intro pins s σ H xs us Q I r h
  obtain ⟨a, ys, c, cv, b, rfl, ha, hc, e, q⟩ := h
  obtain ⟨u, v, rfl, ru, rv⟩ := vals2 r
  obtain rfl := clsV_of hc rv
  cases (show u = Value.ref a from ru)
  obtain ⟨its, _, ⟨o, h1, h2, _⟩, _⟩ := I.tuple ha
  exact PySem.W.kia_one PySem.W.kitx_tuple I.kIn ⟨o, h1, h2⟩ e (fun z => nomatch z) fun tk => ⟨.bl b, H, I.tok _, rfl, q⟩

/-! ### a def that is called within an except suite, too -/
structure RoomH (k : Nat) (A : Around) : Prop where
  dp : A.depth + 3 * k + 5 < recursionLimit
  un : A.units + 16 * k + 200 < cLine
theorem Room.h {k : Nat} {A : Around} (r : Room k A) : RoomH k A := ⟨r.dp, r.un⟩
theorem RoomH.mono {j k : Nat} {A : Around} (r : RoomH k A) (h : j ≤ k) : RoomH j A := ⟨by have := r.dp; omega, by have := r.un; omega⟩
theorem RoomH.deeper {k : Nat} {A : Around} (r : RoomH (k + 1) A) (env : Env) : RoomH k (A.deeper env) :=
  ⟨by have := r.dp; show A.depth + 1 + 3 * k + 5 < _; omega, by have := r.un; show A.units + 3 + 16 * k + 200 < _; omega⟩
theorem RoomH.mark {k : Nat} {A : Around} (r : RoomH k A) (e : Option Value) : RoomH k (A.mark e) := ⟨r.dp, r.un⟩
theorem RoomH.depth {k : Nat} {A : Around} (r : RoomH k A) : A.depth < recursionLimit := by have := r.dp; omega
/-- the context of such a def's body -/
abbrev cxOfH (P : Program) (w : World) (K : PySem.W.Frag) (mg : Str → Option Value) (base : Heap) (N : List Str) (qual : Str) (scope : Scope) (f : Addr) (cd : Value) (A : Around) (outer : List Env) (s : Shared) (H : Hp) : Cx :=
  { cxOf CX0 P w K mg base N qual scope f cd A outer s H E0 with calm := false, xe := fun _ _ => False }
structure FnOkH (P : Program) (w : World) (K : PySem.W.Frag) (mg : Str → Option Value) (base : Heap) (k : Nat) (f : Addr) (fd : FuncData) (ps : List Str) (sp : Sp) : Prop where
  len : ∀ vs H Q E, sp vs H Q E → vs.length = ps.length
  run : ∀ (A : Around) (outer : List Env) (s : Shared) (H : Hp) (args : Args) (us : List Value) (vs : List V) (Q : VK), RoomH k A → Env0 P w K mg base A outer s H → BindsTo s fd args (ps.zip us) → Vals vs us → sp vs H Q E0 →
    codeAny (model P w) A (.call (.ref f) args) (CR CX0 outer P w H s Q E0) s
theorem FnOkH.ok {P : Program} {w : World} {K : PySem.W.Frag} {mg : Str → Option Value} {base : Heap} {k : Nat} {f : Addr} {fd : FuncData} {ps : List Str} {sp : Sp} (F : FnOkH P w K mg base k f fd ps sp) (hE : ∀ vs H Q E, sp vs H Q E → sp vs H Q E0) : FnOk P w K mg base CX0 k f fd ps sp :=
  ⟨F.len, fun A outer s H args us vs Q E hr he hb hv hs => codeAny_mono (F.run A outer s H args us vs Q hr.h he hb hv (hE _ _ _ _ hs)) fun r s' h => by
    cases r with
    | error e => exact h
    | ok fl => cases fl <;> exact h⟩
theorem Fun.okH {P : Program} {w : World} {K : PySem.W.Frag} {mg : Str → Option Value} {base : Heap} {x qual : Str} {st : Stmt} {f : Addr} {fd : FuncData} {N ps : List Str} {k : Nat} {sp : Sp} (F : Fun K x qual st f fd) (S : FnScope N ps (defScope st)) (len : ∀ vs H Q E, sp vs H Q E → vs.length = ps.length)
    (hbody : ∀ (cdv : Value) (A : Around) (outer : List Env) (s : Shared) (H : Hp) (vs : List V) (Q : VK), RoomH k (A.deeper (envOfC qual (defScope st) s.heap.objs.size f cdv)) → sp vs H Q E0 →
      ∃ t, PSs (cxOfH P w K mg base N qual (defScope st) f cdv A outer s H) (defBody st) t ∧ t { nx := fun _ H' => Q .non H', rt := Q } (start N vs) H) : FnOkH P w K mg base (k + 1) f fd ps sp := by
  obtain ⟨oc, od, kV, doc, pm, an, cdv, ct, osl, rfl, lk, hcd⟩ := F.ex
  refine ⟨len, fun A outer s H args us vs Q hr e0 hb r hsp => ?_⟩
  have hl := len _ _ _ _ hsp
  have KX : K.In s.heap := e0.mod.kin.keeps fun b o e => (e0.bs b o e).1
  have lim : s.heap.NoLimit := e0.mod.nolimit.keeps fun b o e => (e0.bs b o e).1
  have hkind : ∀ y ∈ ps.zip us, (defScope st).names.lookup y.1 = some .local ∨ ((defScope st).names.lookup y.1 = some .cell ∧ ((cellsFrom (s.heap.objs.size + 1) (defScope st).names []).lookup y.1).isSome = true) := fun ⟨n, v⟩ hy => by
    rcases S.par n (List.of_mem_zip hy).1 with q | q
    · exact .inl q
    · exact .inr ⟨q, PySem.W.cellsFrom_some _ _ _ (.inl q)⟩
  refine codeAny_call_function hr.depth (KX _ _ lk) rfl S.co S.gen rfl (PySem.W.codeRec_of KX hcd) (hb _ _ _ _ ?_)
  refine wpAny_newFunctionEnv_cells S.kind hkind fun env he s1 x => ?_
  subst he
  refine ⟨lim.keeps x.toInCall.keep, codeAny_func ?_⟩
  obtain ⟨t, ht, hq⟩ := hbody cdv A outer s H vs Q (hr.deeper _) hsp
  have I0 : Inv (cxOf CX0 P w K mg base N qual (defScope st) f cdv { A with handled := none } outer s H E0) [] (start N vs) H s1 := inv_start S rfl ⟨e0.frames, e0.mod, e0.bs, e0.bsz, e0.funs, e0.frf, e0.hok, e0.bare⟩ hl r x
  have I : Inv (cxOfH P w K mg base N qual (defScope st) f cdv A outer s H) [] (start N vs) H s1 :=
    ⟨⟨I0.ok.mod, I0.ok.kind, I0.ok.glob, I0.ok.blt, I0.ok.above, I0.ok.inj, I0.ok.has, I0.ok.cab, (fun z => nomatch z), I0.ok.frames, I0.ok.stk, I0.ok.exf, I0.ok.bs, I0.ok.bsz, I0.ok.noex, I0.ok.exfs, I0.ok.funs, I0.ok.frf⟩, I0.os, I0.bare, I0.base, I0.loc, I0.cell, I0.free, I0.freeC, I0.pin, I0.hok, I0.len⟩
  refine wpAny_mono (ht [] s1 (start N vs) H _ I hq) (fun fl s' hs => ?_) fun e s' hs => hs.elim
  have fin : ∀ {σ' : St} {H' : Hp} {v : V} {u : Value}, Inv (cxOfH P w K mg base N qual (defScope st) f cdv A outer s H) [] σ' H' s' → RelV v u → Q v H' → CE outer P w H s Q u s' :=
    fun {σ' H' v u} J rv q => ⟨v, H', J.os, J.bare, J.base, J.hok, rv, q⟩
  cases fl with
  | ret u =>
    obtain ⟨v, σ', H', J, rv, q⟩ := hs
    exact fin J rv q
  | next =>
    obtain ⟨σ', H', J, q⟩ := hs
    exact fin (v := V.non) (u := Value.none) J rfl q
  | brk =>
    obtain ⟨_, _, _, q⟩ := hs
    exact False.elim q
  | cont =>
    obtain ⟨_, _, _, q⟩ := hs
    exact False.elim q
def CallsH (P : Program) (w : World) (K : PySem.W.Frag) (mg : Str → Option Value) (base : Heap) (k : Nat) (x : Str) (ps : List Str) (sp : Sp) : Prop :=
  ∃ f fd, FnOkH P w K mg base k f fd ps sp ∧ Binds K fd ps [] ∧ mg x = some (.ref f) ∧ PySem.W.keepIn K (.ref f) = true
theorem CallsH.calls {P : Program} {w : World} {K : PySem.W.Frag} {mg : Str → Option Value} {base : Heap} {k : Nat} {x : Str} {ps : List Str} {sp : Sp} (C : CallsH P w K mg base k x ps sp) (hE : ∀ vs H Q E, sp vs H Q E → sp vs H Q E0) : Calls P w K mg base CX0 k x ps sp := by
  obtain ⟨f, fd, F, b, m, kp⟩ := C
  exact ⟨f, fd, F.ok hE, b, m, kp⟩
theorem DefAt.okH {P : Program} {w : World} {K : PySem.W.Frag} {mg : Str → Option Value} {base : Heap} {x : Str} {st : Stmt} {N ps : List Str} {k : Nat} {sp : Sp} (D : DefAt K mg x st ps) (S : FnScope N ps (defScope st)) (len : ∀ vs H Q E, sp vs H Q E → vs.length = ps.length)
    (hbody : ∀ (f : Addr) (cdv : Value) (A : Around) (outer : List Env) (s : Shared) (H : Hp) (vs : List V) (Q : VK), RoomH k (A.deeper (envOfC x (defScope st) s.heap.objs.size f cdv)) → sp vs H Q E0 →
      ∃ t, PSs (cxOfH P w K mg base N x (defScope st) f cdv A outer s H) (defBody st) t ∧ t { nx := fun _ H' => Q .non H', rt := Q } (start N vs) H) : CallsH P w K mg base (k + 1) x ps sp := by
  obtain ⟨f, fd, F, b, m⟩ := D.ex
  exact ⟨f, fd, F.okH S len (hbody f), b, m, F.kp⟩
section
variable {X : Cx} {k : Nat} {x : Str} {ps : List Str} {sp : Sp} {p pos : Pos} {e : Expr} {es : List Expr} {t : TA}
theorem pe_fnH (C : CallsH X.prog X.w X.K X.mg X.base k x ps sp) (hr : RoomH k X.A) (hg : Gl X x) (ha : PA X (e :: es) t) (hdb : (x == ("__debug__" : Str)) = false := by decide)
    (he : starEach (e :: es) X.env = (false, eval e X.env) :: starEach es X.env := by rfl) (hpl : (backTo pos (starEach es X.env)).any (·.1) = false := by rfl) : PE X (.Call (.Name x p) (e :: es) [] pos) (tCall sp [] E0 t) := by
  obtain ⟨f, fd, F, hb, hm, hk⟩ := C
  intro pins s σ H Q I h
  refine wpAny_Call_Name_kw (ld_glob I hg hm ?_ hdb)
  refine PySem.W.callWith_K (h₀ := X.base) I.ok.mod.kin hk (thn (ha pos pins s σ H _ I h) fun us s1 ⟨vs, H1, I1, r, q⟩ => ⟨I1.kIn, ?_⟩) he hpl
  have r2 : Vals (vs ++ []) (us ++ []) := r.append .nil
  have hl : (us ++ []).length = ps.length := by rw [← r2.length]; exact F.len _ _ _ _ q
  refine wpAny_call (codeAny_mono (F.run X.A X.stack s1 H1 ⟨us, []⟩ (us ++ []) (vs ++ []) Q hr I1.env0 (hb s1 us I1.kIn hl) r2 q) fun r s' hq => ?_)
  cases r with
  | error e => exact hq.elim
  | ok fl =>
    cases fl with
    | ret u => exact I1.after hq
    | next => exact False.elim hq
    | brk => exact False.elim hq
    | cont => exact False.elim hq
end
end L2
namespace L2
open PySem PySem.Spec PyProof.Rows
theorem rIx_seq {K : PySem.W.Frag} {p : Addr} {xs : List V} {i : Int} {v : V} {H : Hp} {Q : VK} (hS : SqS K H p xs) (hi : atI xs i = some v) (q : Q v H) : rIx K (.ref p) (.int i) H Q := by
  rcases hS with h | h
  · exact .inl ⟨p, xs, i, v, rfl, rfl, h, hi, q⟩
  · exact .inr (.inl ⟨p, xs, i, v, rfl, rfl, h, hi, q⟩)
end L2
/-! machines: the program's own part, by plain data -/
namespace Mc
open PySem L2 PyProof.Rows
/-- left and right: a number or a text -/
inductive Tn where
  | n (i : Int) | w (x : Str)
def Tn.v : Tn → V
  | .n i => .int i
  | .w x => .str x
def Tn.d : Tn → PyData
  | .n i => .int i
  | .w x => .str x
structure Rw where
  l : Tn
  c : List (Int × Int)
  r : Tn
def cellD (c : Int × Int) : PyData := .tuple [.int c.1, .int c.2]
def rowD (r : Rw) : PyData := .tuple [r.l.d, .tuple (r.c.map cellD), r.r.d]
def machD (rs : List Rw) : PyData := .tuple (rs.map rowD)
/-- a row in the heap, of lists or tuples -/
inductive CellsAt (K : PySem.W.Frag) (H : Hp) : List V → List (Int × Int) → Prop
  | nil : CellsAt K H [] []
  | cons {q : Addr} {a b : Int} {xs : List V} {cs : List (Int × Int)} (h : SqS K H q [.int a, .int b]) (t : CellsAt K H xs cs) : CellsAt K H (.ref q :: xs) ((a, b) :: cs)
def RowAt (K : PySem.W.Frag) (H : Hp) (v : V) (r : Rw) : Prop := ∃ p b cs, v = .ref p ∧ SqS K H p [r.l.v, .ref b, r.r.v] ∧ SqS K H b cs ∧ CellsAt K H cs r.c
inductive RowsAt (K : PySem.W.Frag) (H : Hp) : List V → List Rw → Prop
  | nil : RowsAt K H [] []
  | cons {v : V} {r : Rw} {xs : List V} {rs : List Rw} (h : RowAt K H v r) (t : RowsAt K H xs rs) : RowsAt K H (v :: xs) (r :: rs)
section
variable {K : PySem.W.Frag} {H H' : Hp}
theorem CellsAt.same (e : Same H H') : ∀ {xs : List V} {cs : List (Int × Int)}, CellsAt K H xs cs → CellsAt K H' xs cs
  | _, _, .nil => .nil
  | _, _, .cons h t => .cons (h.same e) (t.same e)
theorem CellsAt.len : ∀ {xs : List V} {cs : List (Int × Int)}, CellsAt K H xs cs → xs.length = cs.length
  | _, _, .nil => rfl
  | _, _, .cons h t => by simp [t.len]
theorem CellsAt.get : ∀ {xs : List V} {cs : List (Int × Int)} {i : Nat} {x : V}, CellsAt K H xs cs → xs[i]? = some x → ∃ q c, cs[i]? = some c ∧ x = .ref q ∧ SqS K H q [.int c.1, .int c.2]
  | _, _, _, _, .nil, e => by simp at e
  | _, _, 0, _, .cons h t, e => by simp at e; subst e; exact ⟨_, _, by simp; rfl, rfl, h⟩
  | _, _, i + 1, x, .cons h t, e => by
    obtain ⟨q, c, h1, h2⟩ := CellsAt.get (i := i) (x := x) t (by simpa using e)
    exact ⟨q, c, by simpa using h1, h2⟩
theorem RowAt.same (e : Same H H') {v : V} {r : Rw} (h : RowAt K H v r) : RowAt K H' v r := by
  obtain ⟨p, b, cs, h1, h2, h3, h4⟩ := h
  exact ⟨p, b, cs, h1, h2.same e, h3.same e, h4.same e⟩
theorem RowsAt.same (e : Same H H') : ∀ {xs : List V} {rs : List Rw}, RowsAt K H xs rs → RowsAt K H' xs rs
  | _, _, .nil => .nil
  | _, _, .cons h t => .cons (h.same e) (t.same e)
theorem RowsAt.len : ∀ {xs : List V} {rs : List Rw}, RowsAt K H xs rs → xs.length = rs.length
  | _, _, .nil => rfl
  | _, _, .cons h t => by simp [t.len]
theorem RowsAt.get : ∀ {xs : List V} {rs : List Rw} {i : Nat} {x : V}, RowsAt K H xs rs → xs[i]? = some x → ∃ r, rs[i]? = some r ∧ RowAt K H x r
  | _, _, _, _, .nil, e => by simp at e
  | _, _, 0, _, .cons h t, e => by simp at e; subst e; exact ⟨_, by simp, h⟩
  | _, _, i + 1, x, .cons h t, e => by
    obtain ⟨r, h1, h2⟩ := RowsAt.get (i := i) (x := x) t (by simpa using e)
    exact ⟨r, by simpa using h1, h2⟩
end
/-- what stands at the module's top -/
def ModT (K : PySem.W.Frag) (a : Addr) (xs : List V) : Prop := ∃ (o : Obj) (its : Array Value) (n : Nat), K.lookup a = some o ∧ o.cls = .type "tuple" ∧ o.data = .seq its n ∧ its.size ≤ sizeLine ∧ Vals xs its.toList
theorem ModT.sq {K : PySem.W.Frag} {a : Addr} {xs : List V} (h : ModT K a xs) (H : Hp) : SqT K H a xs := .inr h
theorem tn_dat {K : PySem.W.Frag} (H : Hp) (t : Tn) : DatV K H t.v t.d := by
  cases t with
  | n i => exact .int i
  | w x => exact .str x
/-! ### data of a machine: alike with itself, of a told shape -/
theorem eqvAll_refl : ∀ {xs : List PyData}, (∀ x ∈ xs, x.eqv x = true) → PyData.eqvAll xs xs = true
  | [], _ => by rw [PyData.eqvAll.eq_1]
  | x :: t, h => by rw [PyData.eqvAll.eq_2, h x (List.mem_cons_self ..), eqvAll_refl fun y hy => h y (List.mem_cons_of_mem _ hy)]; rfl
theorem eqv_tup {xs : List PyData} (h : ∀ x ∈ xs, x.eqv x = true) : (PyData.tuple xs).eqv (.tuple xs) = true := by
  show PyData.eqvAll xs xs = true
  exact eqvAll_refl h
theorem eqv_lst {xs : List PyData} (h : ∀ x ∈ xs, x.eqv x = true) : (PyData.list xs).eqv (.list xs) = true := by
  show PyData.eqvAll xs xs = true
  exact eqvAll_refl h
theorem eqv_int (i : Int) : (PyData.int i).eqv (.int i) = true := by rw [PyData.eqv.eq_5]; simp
theorem eqv_str (i : Str) : (PyData.str i).eqv (.str i) = true := by rw [PyData.eqv.eq_6]; simp
theorem eqv_tn (t : Tn) : t.d.eqv t.d = true := by
  cases t with
  | n i => exact eqv_int i
  | w x => exact eqv_str x
theorem eqv_cell (c : Int × Int) : (cellD c).eqv (cellD c) = true := eqv_tup fun x hx => by
  rcases List.mem_cons.mp hx with z | z
  · rw [z]; exact eqv_int _
  · rw [List.mem_singleton.mp z]; exact eqv_int _
theorem eqv_row (r : Rw) : (rowD r).eqv (rowD r) = true := eqv_tup fun x hx => by
  rcases List.mem_cons.mp hx with z | hx
  · rw [z]; exact eqv_tn _
  rcases List.mem_cons.mp hx with z | hx
  · rw [z]
    refine eqv_tup fun y hy => ?_
    obtain ⟨c, _, rfl⟩ := List.mem_map.mp hy
    exact eqv_cell c
  · rw [List.mem_singleton.mp hx]; exact eqv_tn _
theorem eqv_mach (rs : List Rw) : (machD rs).eqv (machD rs) = true := eqv_tup fun x hx => by
  obtain ⟨r, _, rfl⟩ := List.mem_map.mp hx
  exact eqv_row r
def Tn.ok : Tn → Prop
  | .n _ => True
  | .w x => PyData.strOk x = true
def Rw.ok (r : Rw) : Prop := r.l.ok ∧ r.r.ok
theorem lay_all : ∀ {xs : List PyData}, (∀ x ∈ xs, x.canLay0 = true) → PyData.canLayAll0 xs = true
  | [], _ => by rfl
  | x :: t, h => by
    show (x.canLay0 && PyData.canLayAll0 t) = true
    rw [h x (List.mem_cons_self ..), lay_all fun y hy => h y (List.mem_cons_of_mem _ hy)]; rfl
theorem depth_all {n : Nat} : ∀ {xs : List PyData}, (∀ x ∈ xs, x.depth ≤ n) → PyData.depthAll xs ≤ n
  | [], _ => Nat.zero_le _
  | x :: t, h => by
    show max x.depth (PyData.depthAll t) ≤ n
    exact Nat.max_le.mpr ⟨h x (List.mem_cons_self ..), depth_all fun y hy => h y (List.mem_cons_of_mem _ hy)⟩
def Sh (n : Nat) (d : PyData) : Prop := d.canLay0 = true ∧ d.depth ≤ n
theorem sh_tup {n : Nat} {xs : List PyData} (h : ∀ x ∈ xs, Sh n x) : Sh (n + 1) (.tuple xs) := ⟨lay_all fun x hx => (h x hx).1, by
  have := depth_all fun x hx => (h x hx).2
  show PyData.depthAll xs + 1 ≤ n + 1
  omega⟩
theorem sh_lst {n : Nat} {xs : List PyData} (h : ∀ x ∈ xs, Sh n x) : Sh (n + 1) (.list xs) := ⟨lay_all fun x hx => (h x hx).1, by
  have := depth_all fun x hx => (h x hx).2
  show PyData.depthAll xs + 1 ≤ n + 1
  omega⟩
theorem sh_int (n : Nat) (i : Int) : Sh n (.int i) := ⟨rfl, Nat.zero_le _⟩
theorem sh_str (n : Nat) {x : Str} (h : PyData.strOk x = true) : Sh n (.str x) := ⟨h, Nat.zero_le _⟩
theorem sh_tn (n : Nat) {t : Tn} (h : t.ok) : Sh n t.d := by
  cases t with
  | n i => exact sh_int n i
  | w x => exact sh_str n h
theorem Sh.shaped {n : Nat} {d : PyData} (h : Sh n d) (hn : n ≤ 64) : SeqAt.shaped d = true := by
  show (d.canLay0 && decide (d.depth ≤ 64)) = true
  rw [h.1, decide_eq_true (Nat.le_trans h.2 hn)]; rfl
theorem shaped_mach {rs : List Rw} (h : ∀ r ∈ rs, r.ok) : SeqAt.shaped (machD rs) = true := by
  refine Sh.shaped (n := 4) (sh_tup fun x hx => ?_) (by decide)
  obtain ⟨r, hr, rfl⟩ := List.mem_map.mp hx
  refine sh_tup fun x hx => ?_
  rcases List.mem_cons.mp hx with z | hx
  · rw [z]; exact sh_tn _ (h r hr).1
  rcases List.mem_cons.mp hx with z | hx
  · rw [z]
    refine sh_tup fun x hx => ?_
    obtain ⟨c, _, rfl⟩ := List.mem_map.mp hx
    refine sh_tup fun x hx => ?_
    rcases List.mem_cons.mp hx with z | z
    · rw [z]; exact sh_int _ _
    · rw [List.mem_singleton.mp z]; exact sh_int _ _
  · rw [List.mem_singleton.mp hx]; exact sh_tn _ (h r hr).2
/-! ### what stays when a list is changed -/
theorem _root_.L2.Same.updN {H H' : Hp} {p : Addr} {o : HO} (sm : Same H H') (hp : H p = none) : Same H (upd H' p o) := fun b u e => by rw [upd_ne (ne_of_none e hp)]; exact sm b u e
section
variable {K : PySem.W.Frag} {H : Hp} {p q : Addr} {xs ys : List V} {o : HO}
theorem SqL.change (h : SqL K H q ys) (hp : H p = some (.lst xs)) (ne : ys ≠ xs) : SqL K (upd H p o) q ys := by
  rcases h with (h | ⟨u, h⟩) | h
  · refine .inl (.inl ?_)
    rw [upd_ne]
    · exact h
    · rintro rfl
      rw [hp] at h
      cases h
      exact ne rfl
  · refine .inl (.inr ⟨u, ?_⟩)
    rw [upd_ne]
    · exact h
    · rintro rfl
      rw [hp] at h
      cases h
  · exact .inr h
theorem SqT.change (h : SqT K H q ys) (hp : H p = some (.lst xs)) : SqT K (upd H p o) q ys := by
  rcases h with (h | ⟨u, h⟩) | h
  · refine .inl (.inl ?_)
    rw [upd_ne]
    · exact h
    · rintro rfl
      rw [hp] at h
      cases h
  · refine .inl (.inr ⟨u, ?_⟩)
    rw [upd_ne]
    · exact h
    · rintro rfl
      rw [hp] at h
      cases h
  · exact .inr h
theorem SqS.change (h : SqS K H q ys) (hp : H p = some (.lst xs)) (ne : ys ≠ xs) : SqS K (upd H p o) q ys := h.imp (fun h => SqL.change h hp ne) (fun h => SqT.change h hp)
/-- tuples of tuples -/
inductive NoL : PyData → Prop where
  | int (i : Int) : NoL (.int i)
  | str (i : Str) : NoL (.str i)
  | tup {ds : List PyData} (h : ∀ d ∈ ds, NoL d) : NoL (.tuple ds)
end
theorem noL_tn (t : Tn) : NoL t.d := by cases t <;> constructor
theorem noL_cell (c : Int × Int) : NoL (cellD c) := .tup fun x hx => by
  rcases List.mem_cons.mp hx with z | z
  · rw [z]; exact .int _
  · rw [List.mem_singleton.mp z]; exact .int _
theorem noL_row (r : Rw) : NoL (rowD r) := .tup fun x hx => by
  rcases List.mem_cons.mp hx with z | hx
  · rw [z]; exact noL_tn _
  rcases List.mem_cons.mp hx with z | hx
  · rw [z]
    refine .tup fun x hx => ?_
    obtain ⟨c, _, rfl⟩ := List.mem_map.mp hx
    exact noL_cell c
  · rw [List.mem_singleton.mp hx]; exact noL_tn _
theorem noL_mach (rs : List Rw) : NoL (machD rs) := .tup fun x hx => by
  obtain ⟨r, hr, rfl⟩ := List.mem_map.mp hx
  exact noL_row r
mutual
theorem DatV.change {K : PySem.W.Frag} {H : Hp} {p : Addr} {xs : List V} {o : HO} (hp : H p = some (.lst xs)) : ∀ {x : V} {d : PyData}, DatV K H x d → NoL d → DatV K (upd H p o) x d
  | _, _, .non, n => by cases n
  | _, _, .bl b, n => by cases n
  | _, _, .int i, _ => .int i
  | _, _, .str x, _ => .str x
  | _, _, .lst h ds, n => by cases n
  | _, _, .tup h ds, n => .tup (SqT.change h hp) (DatVs.change hp ds fun d hd => by cases n with | tup h => exact h d hd)
theorem DatVs.change {K : PySem.W.Frag} {H : Hp} {p : Addr} {xs : List V} {o : HO} (hp : H p = some (.lst xs)) : ∀ {ys : List V} {ds : List PyData}, DatVs K H ys ds → (∀ d ∈ ds, NoL d) → DatVs K (upd H p o) ys ds
  | _, _, .nil, _ => .nil
  | _, _, .cons h t, n => .cons (DatV.change hp h (n _ (List.mem_cons_self ..))) (DatVs.change hp t fun d hd => n d (List.mem_cons_of_mem _ hd))
end
theorem atI_in {α : Type} {xs : List α} {i : Int} (h0 : 0 ≤ i) (h1 : i < xs.length) : ∃ v, v ∈ xs ∧ atI xs i = some v := by
  obtain ⟨j, rfl⟩ : ∃ j : Nat, i = j := ⟨i.toNat, by omega⟩
  have hj : j < xs.length := by omega
  exact ⟨xs[j], List.getElem_mem hj, atI_nat (by simp [hj])⟩
theorem atI_map {α β : Type} (f : α → β) {xs : List α} {i : Int} {v : α} (h : atI xs i = some v) : atI (xs.map f) i = some (f v) := by
  unfold atI at h ⊢
  rw [List.length_map]
  cases e : ixN xs.length i with
  | none => rw [e] at h; cases h
  | some j =>
    rw [e] at h
    have h : xs[j]? = some v := h
    show (xs.map f)[j]? = some (f v)
    rw [List.getElem?_map, h]; rfl
theorem cdiv1 (c : Int) (b : Bool) : CDiv c (1 + (if b = true then 1 else 0)) := by cases b <;> exact ⟨by decide, by decide⟩
section
variable {K : PySem.W.Frag} {H : Hp}
theorem CellsAt.append : ∀ {xs ys : List V} {cs ds : List (Int × Int)}, CellsAt K H xs cs → CellsAt K H ys ds → CellsAt K H (xs ++ ys) (cs ++ ds)
  | _, _, _, _, .nil, h => h
  | _, _, _, _, .cons a t, h => .cons a (CellsAt.append t h)
theorem CellsAt.drop : ∀ {xs : List V} {cs : List (Int × Int)} (n : Nat), CellsAt K H xs cs → CellsAt K H (xs.drop n) (cs.drop n)
  | _, _, 0, h => h
  | _, _, _ + 1, .nil => .nil
  | _, _, n + 1, .cons _ t => CellsAt.drop n t
theorem CellsAt.take : ∀ {xs : List V} {cs : List (Int × Int)} (n : Nat), CellsAt K H xs cs → CellsAt K H (xs.take n) (cs.take n)
  | _, _, 0, _ => .nil
  | _, _, _ + 1, .nil => .nil
  | _, _, n + 1, .cons a t => .cons a (CellsAt.take n t)
theorem CellsAt.cut {xs : List V} {cs : List (Int × Int)} (h : CellsAt K H xs cs) (lo hi : Option Int) : ∃ ds, CellsAt K H (cutV xs lo hi) ds ∧ ds.length ≤ cs.length := by
  refine ⟨_, (h.drop _).take _, ?_⟩
  rw [List.length_take, List.length_drop]
  omega
theorem CellsAt.change {p : Addr} {zs : List V} {o : HO} (hp : H p = some (.lst zs)) (hz : zs.length = 2 → ∃ a b, zs = [.ref a, b]) : ∀ {xs : List V} {cs : List (Int × Int)}, CellsAt K H xs cs → CellsAt K (upd H p o) xs cs
  | _, _, .nil => .nil
  | _, _, .cons h t => .cons (SqS.change h hp fun e => by
      obtain ⟨a, b, e2⟩ := hz (by rw [← e]; rfl)
      rw [e2] at e
      cases e) (CellsAt.change hp hz t)
theorem CellsAt.one {q : Addr} {a b : Int} (h : SqS K H q [.int a, .int b]) : CellsAt K H [.ref q] [(a, b)] := .cons h .nil
theorem cells_of : ∀ {xs : List V} {cs : List (Int × Int)}, DatVs K H xs (cs.map cellD) → CellsAt K H xs cs
  | xs, [], h => by obtain rfl := h.nil_of; exact .nil
  | xs, c :: cs, h => by
    obtain ⟨x, t, rfl, h1, h2⟩ := h.cons_of
    obtain ⟨a, ys, rfl, h3, h4⟩ := h1.tup_of
    obtain ⟨y0, t0, rfl, h5, h6⟩ := h4.cons_of
    obtain ⟨y1, t1, rfl, h7, h8⟩ := h6.cons_of
    obtain rfl := h8.nil_of
    obtain rfl := h5.int_of
    obtain rfl := h7.int_of
    exact .cons (.inr h3) (cells_of h2)
theorem tn_of {x : V} {t : Tn} (h : DatV K H x t.d) : x = t.v := by
  cases t with
  | n i => exact h.int_of
  | w x => exact h.str_of
end
section
variable {K : PySem.W.Frag}
theorem upd_at {H : Hp} {a : Addr} {o : HO} (h : H a = none) : upd H a o a = some o := upd_same
theorem pick_one {G : Hp} {t1 t2 : Addr} {a b c d : Int} {v : V} (h1 : G t1 = some (.tup [.int a, .int b])) (h2 : G t2 = some (.tup [.int c, .int d])) (hv : v ∈ [V.ref t1, V.ref t2]) : ∃ (t : Addr) (z : Int × Int), v = .ref t ∧ SqS K G t [.int z.1, .int z.2] := by
  rcases List.mem_cons.mp hv with rfl | hv
  · exact ⟨t1, (a, b), rfl, .inr (.inl (.inl h1))⟩
  · obtain rfl := List.mem_singleton.mp hv
    exact ⟨t2, (c, d), rfl, .inr (.inl (.inl h2))⟩
theorem ints_at {ns : List Int} {i : Int} (h0 : 0 ≤ i) (h1 : i < ns.length) : ∃ z, atI (ns.map V.int) i = some (.int z) := by
  obtain ⟨z, _, e⟩ := atI_in h0 h1
  exact ⟨z, atI_map V.int e⟩
end
theorem RowsAt.append {K : PySem.W.Frag} {H : Hp} : ∀ {xs ys : List V} {rs qs : List Rw}, RowsAt K H xs rs → RowsAt K H ys qs → RowsAt K H (xs ++ ys) (rs ++ qs)
  | _, _, _, _, .nil, h => h
  | _, _, _, _, .cons a t, h => .cons a (RowsAt.append t h)
theorem RowsAt.one {K : PySem.W.Frag} {H : Hp} {v : V} {r : Rw} (h : RowAt K H v r) : RowsAt K H [v] [r] := .cons h .nil
theorem rowD_of {K : PySem.W.Frag} {H : Hp} {v : V} {r : Rw} (h : DatV K H v (rowD r)) : ∃ (t b : Addr) (cs : List V), v = .ref t ∧ SqT K H t [r.l.v, .ref b, r.r.v] ∧ SqT K H b cs ∧ CellsAt K H cs r.c := by
  obtain ⟨t, xs, rfl, h1, h2⟩ := h.tup_of
  obtain ⟨x0, t0, rfl, h3, h4⟩ := h2.cons_of
  obtain ⟨x1, t1, rfl, h5, h6⟩ := h4.cons_of
  obtain ⟨x2, t2, rfl, h7, h8⟩ := h6.cons_of
  obtain rfl := h8.nil_of
  obtain rfl := tn_of h3
  obtain rfl := tn_of h7
  obtain ⟨b, cs, rfl, h9, h10⟩ := h5.tup_of
  exact ⟨t, b, cs, rfl, h1, h9, cells_of h10⟩
section
variable {K : PySem.W.Frag} {h : Heap} {mg : Str → Option Value}
theorem defAt_mk {x : Str} {st : Stmt} {ps : List Str} {f : Addr} {oc : Value} {od an : Option Addr} {osl : Array (Option Value)} {kV doc pm cdv ct : Value} (X : K.In h) (G : h.Ns mainGlobals mg)
    (a : PySem.W.nsIn K mainGlobals x = some (some (.ref f))) (l : K.lookup f = some ⟨oc, od, .func (PySem.W.fnOf x x (defArgs st) (defBody st) (defScope st) .none kV doc pm an cdv ct), osl⟩)
    (c : PySem.W.codeIn K cdv x = true) (k : PySem.W.keepIn K (.ref f) = true)
    (b : ∀ (kV doc pm : Value) (an : Option Addr) (cdv ct : Value) (us : List Value), us.length = ps.length → bindArgs (PySem.W.fnOf x x (defArgs st) (defBody st) (defScope st) .none kV doc pm an cdv ct) ⟨us, []⟩ = pure (ps.zip us)) : DefAt K mg x st ps := by
  have F := fun_mk (st := st) l c k
  exact ⟨f, _, F, F.binds b, PySem.W.mg_of X G a⟩
theorem modT2s {a : Addr} {x y : Str} {t1 t2 n : Nat} {od : Option Addr} {sl : Array (Option Value)} (l : K.lookup a = some ⟨.type "tuple", od, .seq #[.str x t1, .str y t2] n, sl⟩) : ModT K a [.str x, .str y] :=
  ⟨_, _, _, l, rfl, rfl, by show 2 ≤ sizeLine; decide, .cons ⟨_, rfl⟩ (.cons ⟨_, rfl⟩ .nil)⟩
theorem modT2i {a : Addr} {x y : Int} {t1 t2 n : Nat} {od : Option Addr} {sl : Array (Option Value)} (l : K.lookup a = some ⟨.type "tuple", od, .seq #[.int x t1, .int y t2] n, sl⟩) : ModT K a [.int x, .int y] :=
  ⟨_, _, _, l, rfl, rfl, by show 2 ≤ sizeLine; decide, .cons ⟨_, rfl⟩ (.cons ⟨_, rfl⟩ .nil)⟩
end

section
variable {K : PySem.W.Frag} {h : Heap} {mg : Str → Option Value}
theorem any_mk {W N : Addr} {bm bs sub : List Value} {nm q : Str} {hd ab : Bool} {sn : List Str} {col : Option Bool} {dd : Option Addr} {k0 k1 k2 k3 k5 : Option Value} {newId : String} (l : K.lookup W = some (excClassObj nm q W N bs bm hd sn sub ab col dd k0 k1 k2 k3 k5 newId)) (b : bm.contains (.type "BaseException") = true) : SX.ExcAny K W bm := ⟨⟨_, _, _, _, _, _, _, _, _, _, _, _, _, _, _, _, l⟩, b⟩
theorem excC_mk {W C N : Addr} {bs sub : List Value} {nm q : Str} {ab : Bool} {sn : List Str} {col : Option Bool} {dd : Option Addr} {k0 k1 k2 k3 k5 : Option Value} (l : K.lookup C = some (excClassObj nm q C N bs (.ref W :: SX.vmro) true sn sub ab col dd k0 k1 k2 k3 k5 "ValueError.__new__"))
    (sa : PySem.W.findIn K (.ref C) "__setattr__" = some (some (.builtin "object.__setattr__"))) (ga : PySem.W.findIn K (.ref C) "__getattribute__" = some (some (.builtin "BaseException.__getattribute__"))) (gh : PySem.W.findIn K (.ref C) "__getattr__" = some none) (cl : PySem.W.findIn K (.ref C) "__class__" = some (some (.builtin "object.__class__")))
    (clg : PySem.W.specialIn K (.builtin "object.__class__") "__get__" = some (some (.builtin "getset_descriptor.__get__"))) (clt : PySem.W.takesIn K (.builtin "object.__class__") = some true) (kp : PySem.W.keepIn K (.ref C) = true) : SX.ExcC K W C := ⟨⟨_, _, _, _, _, _, _, _, _, _, _, _, _, _, l⟩, sa, ga, gh, cl, clg, clt, kp⟩
theorem kit_ref {t : Value} {C : Addr} {cd : ClassData} {b : Bool} (h0 : (t == Value.ref C) = false) (h1 : PySem.W.clsIn K C = some cd) (h2 : PySem.W.typeIn K (.ref C) = some (.type "type")) (h3 : PySem.W.subIn K t (.ref C) = some b) : PySem.W.kitOne K t (.ref C) = some b := by
  unfold PySem.W.kitOne
  rw [h0, if_neg (by decide)]
  unfold PySem.W.kitCls
  simp only [h1, h2]
  rw [if_pos (by rfl)]
  exact h3
theorem kit_ty {t : Value} {T : String} {b : Bool} (h0 : (t == Value.type T) = false) (h1 : PySem.W.kitMeta T = true) (h3 : PySem.W.subIn K t (.type T) = some b) : PySem.W.kitOne K t (.type T) = some b := by
  unfold PySem.W.kitOne
  rw [h0, if_neg (by decide)]
  unfold PySem.W.kitCls
  show (if PySem.W.kitMeta T = true then _ else _) = _
  rw [if_pos h1]
  exact h3
theorem kit_self {C : Addr} : PySem.W.kitOne K (.ref C) (.ref C) = some true := by
  unfold PySem.W.kitOne
  rw [if_pos (by simp)]

end
end Mc
namespace Mc
open PySem L2 PyProof.Rows
/-! ### signs -/
def isSign (n c : Nat) : Bool := decide (97 ≤ c ∧ c < 97 + n)
/-- the first sign that is none -/
def badAt (n : Nat) : Nat → List Nat → Option Nat
  | _, [] => none
  | i, c :: t => if isSign n c = true then badAt n (i + 1) t else some i
theorem badAt_cons (n i c : Nat) (t : List Nat) : badAt n i (c :: t) = if isSign n c = true then badAt n (i + 1) t else some i := rfl
theorem occ_one (x : Str) (c : Nat) : (Builtin.Str.occurrences x ⟨#[c]⟩ 0 x.length 1 = [] ∧ ∀ i : Nat, x.cps.toList[i]? ≠ some c) ∨ ∃ (i : Nat) (r : List Nat), Builtin.Str.occurrences x ⟨#[c]⟩ 0 x.length 1 = i :: r ∧ x.cps.toList[i]? = some c ∧ ∀ k : Nat, k < i → x.cps.toList[k]? ≠ some c := by
  rcases StrLaws.occ_head x ⟨#[c]⟩ 1 (Nat.le_refl _) with ⟨h1, h2⟩ | ⟨i, r, h1, h2, h3⟩
  · exact .inl ⟨h1, fun i e => h2 i ((StrLaws.subAt_one x c i).mpr e)⟩
  · exact .inr ⟨i, r, h1, (StrLaws.subAt_one x c i).mp h2, fun k hk e => h3 k hk ((StrLaws.subAt_one x c k).mpr e)⟩
theorem abc_cps {n : Nat} (h1 : 1 ≤ n) (h2 : n ≤ 3) : (Txt.slice "abc" none (some (n : Int))).cps.toList = [97, 98, 99].take n := by
  obtain rfl | rfl | rfl : n = 1 ∨ n = 2 ∨ n = 3 := by omega
  all_goals decide +kernel
theorem take_sign {n c : Nat} (h1 : 1 ≤ n) (h2 : n ≤ 3) : isSign n c = true ↔ ∃ i : Nat, (([97, 98, 99] : List Nat).take n)[i]? = some c := by
  unfold isSign
  rw [decide_eq_true_iff]
  constructor
  · intro h
    refine ⟨c - 97, ?_⟩
    obtain rfl | rfl | rfl : n = 1 ∨ n = 2 ∨ n = 3 := by omega
    · obtain rfl : c = 97 := by omega
      rfl
    · obtain rfl | rfl : c = 97 ∨ c = 98 := by omega
      all_goals rfl
    · obtain rfl | rfl | rfl : c = 97 ∨ c = 98 ∨ c = 99 := by omega
      all_goals rfl
  · rintro ⟨i, e⟩
    obtain ⟨hi, he⟩ := List.getElem?_eq_some_iff.mp e
    have hm := List.getElem_mem hi
    rw [he] at hm
    obtain rfl | rfl | rfl : n = 1 ∨ n = 2 ∨ n = 3 := by omega
    all_goals
      simp at hm
      omega
theorem in_known {n c : Nat} (h1 : 1 ≤ n) (h2 : n ≤ 3) : (!(!(Builtin.Str.occurrences (Txt.slice "abc" none (some (n : Int))) ⟨#[c]⟩ 0 (Txt.slice "abc" none (some (n : Int))).length 1).isEmpty)) = !isSign n c := by
  have e := abc_cps h1 h2
  rcases occ_one (Txt.slice "abc" none (some (n : Int))) c with ⟨a, b⟩ | ⟨i, r, a, b, _⟩
  · rw [a]
    have : isSign n c = false := Bool.eq_false_iff.mpr fun z => by
      obtain ⟨i, hi⟩ := (take_sign h1 h2).mp z
      rw [e] at b
      exact b i hi
    rw [this]; rfl
  · rw [a]
    rw [e] at b
    rw [(take_sign h1 h2).mpr ⟨i, b⟩]; rfl
theorem index_abc {c : Nat} (h : isSign 3 c = true) : ∃ r, Builtin.Str.occurrences "abc" ⟨#[c]⟩ 0 ("abc" : Str).length 1 = (c - 97) :: r := by
  have h := of_decide_eq_true h
  refine ⟨[], ?_⟩
  obtain rfl | rfl | rfl : c = 97 ∨ c = 98 ∨ c = 99 := by omega
  all_goals decide +kernel
theorem sign_mono {n c : Nat} (h2 : n ≤ 3) (h : isSign n c = true) : isSign 3 c = true := by
  have h := of_decide_eq_true h
  exact decide_eq_true (by omega)
theorem badAt_none {n : Nat} : ∀ {xs : List Nat} {i : Nat}, badAt n i xs = none → ∀ c ∈ xs, isSign n c = true
  | [], _, _, c, hc => by simp at hc
  | x :: t, i, h, c, hc => by
    unfold badAt at h
    by_cases q : isSign n x = true
    · rw [if_pos q] at h
      rcases List.mem_cons.mp hc with z | z
      · rw [z]; exact q
      · exact badAt_none h c z
    · rw [if_neg q] at h; cases h
theorem rowD_parts {K : PySem.W.Frag} {H : Hp} {v : V} {r : Rw} (h : DatV K H v (rowD r)) : ∃ t b, v = .ref t ∧ SqT K H t [r.l.v, .ref b, r.r.v] ∧ DatV K H (.ref b) (.tuple (r.c.map cellD)) := by
  obtain ⟨t, xs, rfl, h1, h2⟩ := h.tup_of
  obtain ⟨x0, t0, rfl, h3, h4⟩ := h2.cons_of
  obtain ⟨x1, t1, rfl, h5, h6⟩ := h4.cons_of
  obtain ⟨x2, t2, rfl, h7, h8⟩ := h6.cons_of
  obtain rfl := h8.nil_of
  obtain rfl := tn_of h3
  obtain rfl := tn_of h7
  obtain ⟨b, cs, rfl, h9, h10⟩ := h5.tup_of
  exact ⟨t, b, rfl, h1, .tup h9 h10⟩
/-! ### tables -/
def thingD (s q : Int) : PyData := .tuple [.int s, .int q]
def tabD (f a : List PyData) : PyData := .tuple [.tuple f, .tuple a]
def IsThing (d : PyData) : Prop := d = .none ∨ ∃ s q, d = thingD s q
def stillF (n : Nat) : List PyData := (List.range n).map fun i : Nat => thingD 1 (i : Int)
def stillA (n : Nat) : List PyData := (List.range n).map fun i : Nat => thingD (-1) (i : Int)
def signT (k : Nat) (rs : List Rw) : List PyData := rs.map fun r => thingD (r.c.getD k (0, 0)).2 (r.c.getD k (0, 0)).1
theorem eqv_non : (PyData.none).eqv .none = true := by rfl
theorem eqv_thing {d : PyData} (h : IsThing d) : d.eqv d = true := by
  rcases h with rfl | ⟨s, q, rfl⟩
  · exact eqv_non
  · exact eqv_cell (s, q)
theorem eqv_tab {f a : List PyData} (hf : ∀ d ∈ f, IsThing d) (ha : ∀ d ∈ a, IsThing d) : (tabD f a).eqv (tabD f a) = true := eqv_tup fun x hx => by
  rcases List.mem_cons.mp hx with z | hx
  · rw [z]; exact eqv_tup fun y hy => eqv_thing (hf y hy)
  · rw [List.mem_singleton.mp hx]; exact eqv_tup fun y hy => eqv_thing (ha y hy)
theorem sh_thing (n : Nat) {d : PyData} (h : IsThing d) : Sh (n + 1) d := by
  rcases h with rfl | ⟨s, q, rfl⟩
  · exact ⟨rfl, Nat.zero_le _⟩
  · refine sh_tup fun x hx => ?_
    rcases List.mem_cons.mp hx with z | z
    · rw [z]; exact sh_int _ _
    · rw [List.mem_singleton.mp z]; exact sh_int _ _
theorem shaped_tab {f a : List PyData} (hf : ∀ d ∈ f, IsThing d) (ha : ∀ d ∈ a, IsThing d) : SeqAt.shaped (tabD f a) = true := by
  refine Sh.shaped (n := 3) (sh_tup fun x hx => ?_) (by decide)
  rcases List.mem_cons.mp hx with z | hx
  · rw [z]; exact sh_tup fun y hy => sh_thing 0 (hf y hy)
  · rw [List.mem_singleton.mp hx]; exact sh_tup fun y hy => sh_thing 0 (ha y hy)
theorem still_thing {n : Nat} : (∀ d ∈ stillF n, IsThing d) ∧ ∀ d ∈ stillA n, IsThing d := by
  refine ⟨fun d hd => ?_, fun d hd => ?_⟩
  all_goals
    obtain ⟨i, _, rfl⟩ := List.mem_map.mp hd
    exact .inr ⟨_, _, rfl⟩
theorem sign_thing {k : Nat} {rs : List Rw} : ∀ d ∈ signT k rs, IsThing d := fun d hd => by
  obtain ⟨i, _, rfl⟩ := List.mem_map.mp hd
  exact .inr ⟨_, _, rfl⟩
end Mc
namespace L2
open PySem PySem.Spec PyProof.Rows

theorem hu1 {A : Around} {k : Nat} (hr : Room k A) : A.units + 1 < cLine := Nat.lt_of_le_of_lt (Nat.add_le_add_left (by decide : 1 ≤ 64) _) hr.units
/-! ### a dict of truths whose keys are flat tuples, wherever these stand -/
def beenX (ks : List (List Key × Addr)) : List (List Key × Addr × Value) := ks.map fun p => (p.1, p.2, Value.bool true)
def Been (P : Program) (w : World) (a : Addr) (ks : List (List Key × Addr)) : HO := .ext fun h => (a == sysModules) = false ∧
  ∃ o es ep, h.get? a = some o ∧ o.ExactDict ∧ o.data = .dict es ep ∧ es.toList = (beenX ks).map (entryOfKey (tupleKind (mixKind P w))) ∧ (ks.map (·.1)).Nodup
def hasK (ks : List (List Key × Addr)) (k : List Key) : Bool := ks.any fun p => decide (p.1 = k)
theorem hasK_snoc {ks : List (List Key × Addr)} {k j : List Key} {b : Addr} : hasK (ks ++ [(k, b)]) j = (hasK ks j || decide (k = j)) := by unfold hasK; rw [List.any_append]; simp
def KeysAt (K : PySem.W.Frag) (H : Hp) (ks : List (List Key × Addr)) : Prop := ∀ p ∈ ks, SqT K H p.2 (p.1.map kV)
theorem KeysAt.same {K : PySem.W.Frag} {H H' : Hp} {ks : List (List Key × Addr)} (e : Same H H') (h : KeysAt K H ks) : KeysAt K H' ks := fun p hp => SqT.same e (h p hp)
theorem KeysAt.snoc {K : PySem.W.Frag} {H : Hp} {ks : List (List Key × Addr)} {k : List Key} {b : Addr} (h : KeysAt K H ks) (hb : SqT K H b (k.map kV)) : KeysAt K H (ks ++ [(k, b)]) := fun p hp => by
  rcases List.mem_append.mp hp with z | z
  · exact h p z
  · rw [List.mem_singleton.mp z]; exact hb
theorem SqT.ext {K : PySem.W.Frag} {H : Hp} {a q : Addr} {φ : Heap → Prop} {o : HO} {xs : List V} (h : SqT K H q xs) (ha : H a = some (.ext φ)) : SqT K (upd H a o) q xs := by
  rcases h with (h | ⟨u, h⟩) | h
  · refine .inl (.inl ?_)
    rw [upd_ne (fun z => by rw [z, ha] at h; cases h)]; exact h
  · refine .inl (.inr ⟨u, ?_⟩)
    rw [upd_ne (fun z => by rw [z, ha] at h; cases h)]; exact h
  · exact .inr h
theorem SqL.ext {K : PySem.W.Frag} {H : Hp} {a q : Addr} {φ : Heap → Prop} {o : HO} {xs : List V} (h : SqL K H q xs) (ha : H a = some (.ext φ)) : SqL K (upd H a o) q xs := by
  rcases h with (h | ⟨u, h⟩) | h
  · refine .inl (.inl ?_)
    rw [upd_ne (fun z => by rw [z, ha] at h; cases h)]; exact h
  · refine .inl (.inr ⟨u, ?_⟩)
    rw [upd_ne (fun z => by rw [z, ha] at h; cases h)]; exact h
  · exact .inr h
mutual
theorem DatV.ext {K : PySem.W.Frag} {H : Hp} {a : Addr} {φ : Heap → Prop} {o : HO} (ha : H a = some (.ext φ)) : ∀ {x : V} {d : PyData}, DatV K H x d → DatV K (upd H a o) x d
  | _, _, .non => .non
  | _, _, .bl b => .bl b
  | _, _, .int i => .int i
  | _, _, .str x => .str x
  | _, _, .lst h ds => .lst (h.ext ha) (DatVs.ext ha ds)
  | _, _, .tup h ds => .tup (h.ext ha) (DatVs.ext ha ds)
theorem DatVs.ext {K : PySem.W.Frag} {H : Hp} {a : Addr} {φ : Heap → Prop} {o : HO} (ha : H a = some (.ext φ)) : ∀ {xs : List V} {ds : List PyData}, DatVs K H xs ds → DatVs K (upd H a o) xs ds
  | _, _, .nil => .nil
  | _, _, .cons h t => .cons (DatV.ext ha h) (DatVs.ext ha t)
end
theorem KeysAt.ext {K : PySem.W.Frag} {H : Hp} {a : Addr} {φ : Heap → Prop} {o : HO} {ks : List (List Key × Addr)} (h : KeysAt K H ks) (ha : H a = some (.ext φ)) : KeysAt K (upd H a o) ks := fun p hp => SqT.ext (h p hp) ha
section
variable {X : Cx} {pins : List (Addr × Obj)} {σ : St} {H : Hp} {s : Shared} {a b : Addr} {k : List Key} {ks : List (List Key × Addr)} {A : Around} {E : Value → Shared → Prop}
theorem key_ofT (I : Inv X pins σ H s) (e : SqT X.K H b (k.map kV)) : (tupleKind (mixKind X.prog X.w)).is s.heap k b := by
  obtain ⟨its, r, ⟨o, h1, h2, n, h3⟩, _⟩ := I.tuple e
  exact ⟨o, its.toArray, n, h1, h2, h3, by simpa using items_are r⟩
theorem been_of (I : Inv X pins σ H s) (e : H a = some (Been X.prog X.w a ks)) (hk : KeysAt X.K H ks) : (a == sysModules) = false ∧ s.heap.DictOfH (tupleKind (mixKind X.prog X.w)) a (beenX ks) := by
  obtain ⟨⟨hd, o, es, ep, h1, h2, h3, h4, h5⟩, _, _⟩ := (show ObjOk X.prog X.w H s.heap a (Been X.prog X.w a ks) from I.hok a _ e)
  refine ⟨hd, o, es, ep, h1, h2, h3, h4, fun x hx => ?_, ?_⟩
  · obtain ⟨p, hp, rfl⟩ := List.mem_map.mp hx
    exact key_ofT I (hk p hp)
  · unfold beenX
    rw [List.map_map]
    exact h5
theorem been_at (ks : List (List Key × Addr)) (k : List Key) : (atKey (beenX ks) k).isSome = hasK ks k := by
  unfold atKey beenX hasK
  rw [Option.isSome_map]
  induction ks with
  | nil => rfl
  | cons p t ih =>
    rw [List.map_cons, List.find?_cons, List.any_cons]
    by_cases h : p.1 = k
    · rw [decide_eq_true (show (p.1, p.2, Value.bool true).1 = k from h)]; rfl
    · rw [decide_eq_false (show ¬ (p.1, p.2, Value.bool true).1 = k from h), Bool.false_or]
      exact ih
theorem been_ok {P : Program} {w : World} {H : Hp} {h : Heap} (hd : (a == sysModules) = false) (hh : ∃ o es ep, h.get? a = some o ∧ o.ExactDict ∧ o.data = .dict es ep ∧ es.toList = (beenX ks).map (entryOfKey (tupleKind (mixKind P w))) ∧ (ks.map (·.1)).Nodup) : ObjOk P w H h a (Been P w a ks) := by
  refine ⟨⟨hd, hh⟩, let ⟨o, _, _, e, _⟩ := hh; ⟨o, e⟩, fun h1 h2 ⟨q, o, es, ep, e, r⟩ kp => ⟨q, o, es, ep, kp _ e, r⟩⟩
end
/-! ### the rules -/
def tXNew (P : Program) (w : World) : TE := fun _ H Q => ∀ p, H p = none → Q (.ref p) (upd H p (Been P w p []))
def rXIn (P : Program) (w : World) (K : PySem.W.Frag) (neg : Bool) : R2 := fun y x H Q => ∃ (a b : Addr) (k : List Key) (ks : List (List Key × Addr)), y = .ref b ∧ x = .ref a ∧ H a = some (Been P w a ks) ∧ KeysAt K H ks ∧ SqT K H b (k.map kV) ∧ Q (.bl (if neg = true then !hasK ks k else hasK ks k)) H
def sXPut (P : Program) (w : World) (K : PySem.W.Frag) (td ty tv : TE) : TS := fun D σ H => tv σ H fun v H1 => td σ H1 fun x H2 => ty σ H2 fun y H3 => ∃ (a b : Addr) (k : List Key) (ks : List (List Key × Addr)), v = .bl true ∧ x = .ref a ∧ y = .ref b ∧
  H3 a = some (Been P w a ks) ∧ KeysAt K H3 ks ∧ SqT K H3 b (k.map kV) ∧ hasK ks k = false ∧ ks.length ≤ sizeLine ∧ D.nx σ (upd H3 a (Been P w a (ks ++ [(k, b)])))
section
variable {X : Cx} {pos pos' : Pos} {o i value : Expr} {td ty tv : TE}
theorem pe_xnew : PE X (.Dict [] [] pos) (tXNew X.prog X.w) := fun pins s σ H Q I h =>
  wpAny_Dict_empty ⟨.ref s.heap.objs.size, _, I.laid (a := s.heap.objs.size) (o := Been X.prog X.w s.heap.objs.size []) (t' := s.toks) (fun _ _ q => Heap.get?_push_of_some _ q) (Nat.le_refl _)
    (been_ok (beq_eq_false_iff_ne.mpr (Ne.symm (Nat.ne_of_lt I.big))) ⟨_, #[], 0, Heap.get?_push_size _ rfl, ⟨rfl, rfl, rfl⟩, rfl, rfl, List.nodup_nil⟩), rfl, h _ (I.hok.fresh (Nat.le_refl _))⟩
theorem op_xin (hu : X.A.units + 1 < cLine) : OpR X (compareOp .In) (rXIn X.prog X.w X.K false) := by
  intro pins s σ H x y v u Q I rx ry h
  obtain ⟨a, b, k, ks, rfl, rfl, ha, hk, hb, q⟩ := h
  cases rx
  cases ry
  obtain ⟨hd, dd⟩ := been_of I ha hk
  refine wpAny_in_heap (tupleKind_room_in1 hu) (key_ofT I hb) hd dd ?_
  rw [been_at]
  exact ⟨.bl _, H, I.tok _, rfl, q⟩
theorem op_xnotin (hu : X.A.units + 1 < cLine) : OpR X (compareOp .NotIn) (rXIn X.prog X.w X.K true) := by
  intro pins s σ H x y v u Q I rx ry h
  obtain ⟨a, b, k, ks, rfl, rfl, ha, hk, hb, q⟩ := h
  cases rx
  cases ry
  obtain ⟨hd, dd⟩ := been_of I ha hk
  refine wpAny_notIn_heap (tupleKind_room_in1 hu) (key_ofT I hb) hd dd ?_
  rw [been_at]
  exact ⟨.bl _, H, I.tok _, rfl, q⟩
theorem ps_xput (hu : X.A.units + 1 < cLine) (ho : PE X o td) (hi : PE X i ty) (hv : PE X value tv) (hs : swapsWith value (some (.Subscript o i pos')) pos.line X.env = pure false) :
    PS X (.Assign [.Subscript o i pos'] value pos) (sXPut X.prog X.w X.K td ty tv) := by
  intro pins s σ H D I h
  refine wpAny_Assign_Subscript (thn (hv pins s σ H _ I h) fun r s1 ⟨v, H1, I1, rv, q1⟩ => thn (ho pins s1 σ H1 _ I1 q1) fun u s2 ⟨x, H2, I2, rx, q2⟩ => thn (hi pins s2 σ H2 _ I2 q2) fun iv s3 ⟨y, H3, I3, ry, q3⟩ => ?_) hs
  obtain ⟨a, b, k, ks, rfl, rfl, rfl, ha, hk, hb, hn, hz, q⟩ := q3
  cases rx
  cases ry
  cases (show r = Value.bool true from rv)
  obtain ⟨hd, dd⟩ := been_of I3 ha hk
  have hz' : (beenX ks).length ≤ sizeLine := by unfold beenX; rw [List.length_map]; exact hz
  refine wpAny_setItem_heap (hsz := hz') (tupleKind_room_in1 hu) (key_ofT I3 hb) dd fun h' dd' hs => ?_
  have e : storedH (beenX ks) k b (Value.bool true) = beenX (ks ++ [(k, b)]) := by
    unfold storedH
    rw [been_at, hn, if_neg (by decide)]
    unfold beenX
    rw [List.map_append]; rfl
  rw [e] at dd'
  obtain ⟨q', es, ep, hq, h2, h3, h4, _, h5⟩ := dd'
  refine ⟨σ, _, d_write I3 (by rw [ha]; exact True.intro) hs ⟨q', hq⟩ (been_ok hd ⟨q', es, ep, hq, h2, h3, h4, ?_⟩), q⟩
  have : (beenX (ks ++ [(k, b)])).map (·.1) = (ks ++ [(k, b)]).map (·.1) := by unfold beenX; rw [List.map_map]; rfl
  rw [← this]; exact h5
end
end L2
namespace Mc
open PySem L2 PyProof.Rows
/-! ### machines that are such -/
def Tn.good (n : Int) : Tn → Prop
  | .n i => 0 ≤ i ∧ i < n
  | .w x => x = "by" ∨ x = "out"
def cellGood (n : Int) (c : Int × Int) : Prop := 0 ≤ c.1 ∧ c.1 < n ∧ (c.2 = 1 ∨ c.2 = -1)
def Rw.good (n : Int) (r : Rw) : Prop := r.l.good n ∧ r.r.good n ∧ ∀ c ∈ r.c, cellGood n c
theorem Tn.good.ok {n : Int} {t : Tn} (h : t.good n) : t.ok := by
  cases t with
  | n i => trivial
  | w x =>
    rcases h with rfl | rfl
    · exact (show PyData.strOk _ = true by decide +kernel)
    · exact (show PyData.strOk _ = true by decide +kernel)
theorem Rw.good.ok {n : Int} {r : Rw} (h : r.good n) : r.ok := ⟨h.1.ok, h.2.1.ok⟩
/-- a machine of sg signs and its strip -/
structure Mach (rs : List Rw) (sg : Nat) : Prop where
  len : 1 ≤ rs.length
  len2 : rs.length ≤ 1000
  sg1 : 1 ≤ sg
  sg3 : sg ≤ 3
  row : ∀ r ∈ rs, r.good rs.length ∧ r.c.length = sg
def Strip (sg : Nat) (z : List Nat) : Prop := z.length ≤ 1000 ∧ ∀ c ∈ z, isSign sg c = true
theorem badAt_ok {sg : Nat} : ∀ {z : List Nat} {i : Nat}, (∀ c ∈ z, isSign sg c = true) → badAt sg i z = none
  | [], _, _ => rfl
  | c :: t, i, h => by
    rw [badAt_cons, if_pos (h c (by simp))]
    exact badAt_ok fun x hx => h x (by simp [hx])
/-! ### the walk -/
def rowAt (rs : List Rw) (q : Int) : Rw := rs.getD q.toNat ⟨.n 0, [], .n 0⟩
/-- what the machine is told at a stand: where it goes (or a word), and its step -/
def cellAt (rs : List Rw) (z : List Nat) (st : Int × Int) : Tn × Int :=
  if st.1 = 0 then ((rowAt rs st.2).l, 1) else if st.1 = (z.length : Int) + 1 then ((rowAt rs st.2).r, -1) else
    (.n ((rowAt rs st.2).c.getD (z.getD (st.1.toNat - 1) 97 - 97) (0, 0)).1, ((rowAt rs st.2).c.getD (z.getD (st.1.toNat - 1) 97 - 97) (0, 0)).2)
def stepM (rs : List Rw) (z : List Nat) (st : Int × Int) : Option (Int × Int) :=
  match (cellAt rs z st).1 with
  | .w _ => none
  | .n q => some (st.1 + (cellAt rs z st).2, q)
def Valid (rs : List Rw) (z : List Nat) (st : Int × Int) : Prop := 0 ≤ st.1 ∧ st.1 ≤ (z.length : Int) + 1 ∧ 0 ≤ st.2 ∧ st.2 < (rs.length : Int)
theorem rowAt_mem {rs : List Rw} {q : Int} (h0 : 0 ≤ q) (h1 : q < rs.length) : rs[q.toNat]? = some (rowAt rs q) := by
  have h : q.toNat < rs.length := by omega
  unfold rowAt
  rw [List.getD_eq_getElem?_getD, List.getElem?_eq_getElem h]; rfl
theorem sign_ix {rs : List Rw} {sg : Nat} {z : List Nat} {st : Int × Int} (S : Strip sg z) (V : Valid rs z st) (h0 : st.1 ≠ 0) (h1 : st.1 ≠ (z.length : Int) + 1) : ∃ c, z[st.1.toNat - 1]? = some c ∧ isSign sg c = true ∧ z.getD (st.1.toNat - 1) 97 = c := by
  obtain ⟨a, b, _, _⟩ := V
  have hl : st.1.toNat - 1 < z.length := by omega
  refine ⟨z[st.1.toNat - 1], by simp [hl], S.2 _ (List.getElem_mem hl), by rw [List.getD_eq_getElem?_getD, List.getElem?_eq_getElem hl]; rfl⟩
theorem cell_get {rs : List Rw} {sg : Nat} {z : List Nat} {st : Int × Int} (M : Mach rs sg) (S : Strip sg z) (V : Valid rs z st) (h0 : st.1 ≠ 0) (h1 : st.1 ≠ (z.length : Int) + 1) :
    ∃ c, (rowAt rs st.2).c[z.getD (st.1.toNat - 1) 97 - 97]? = some c ∧ (rowAt rs st.2).c.getD (z.getD (st.1.toNat - 1) 97 - 97) (0, 0) = c ∧ cellGood rs.length c := by
  obtain ⟨c, _, hs, e⟩ := sign_ix S V h0 h1
  rw [e]
  have hs := of_decide_eq_true hs
  have hr := M.row _ (List.mem_of_getElem? (rowAt_mem V.2.2.1 V.2.2.2))
  have hl : c - 97 < (rowAt rs st.2).c.length := by rw [hr.2]; omega
  refine ⟨(rowAt rs st.2).c[c - 97], by simp [hl], by rw [List.getD_eq_getElem?_getD, List.getElem?_eq_getElem hl]; rfl, hr.1.2.2 _ (List.getElem_mem hl)⟩
theorem step_valid {rs : List Rw} {sg : Nat} {z : List Nat} {st st' : Int × Int} (M : Mach rs sg) (S : Strip sg z) (V : Valid rs z st) (h : stepM rs z st = some st') : Valid rs z st' := by
  have hr := M.row _ (List.mem_of_getElem? (rowAt_mem V.2.2.1 V.2.2.2))
  obtain ⟨a, b, c, d⟩ := id V
  unfold stepM cellAt at h
  by_cases h0 : st.1 = 0
  · simp only [if_pos h0] at h
    have g := hr.1.1
    cases e : (rowAt rs st.2).l with
    | w x => rw [e] at h; cases h
    | n q =>
      rw [e] at h g
      cases h
      exact ⟨by show 0 ≤ st.1 + 1; omega, by show st.1 + 1 ≤ _; omega, g.1, g.2⟩
  · by_cases h1 : st.1 = (z.length : Int) + 1
    · simp only [if_neg h0, if_pos h1] at h
      have g := hr.1.2.1
      cases e : (rowAt rs st.2).r with
      | w x => rw [e] at h; cases h
      | n q =>
        rw [e] at h g
        cases h
        exact ⟨by show 0 ≤ st.1 + -1; omega, by show st.1 + -1 ≤ _; omega, g.1, g.2⟩
    · obtain ⟨cc, _, e, g⟩ := cell_get M S V h0 h1
      simp only [if_neg h0, if_neg h1] at h
      rw [e] at h
      cases h
      obtain ⟨g1, g2, g3⟩ := g
      refine ⟨?_, ?_, g1, g2⟩
      · show 0 ≤ st.1 + cc.2; rcases g3 with g3 | g3 <;> omega
      · show st.1 + cc.2 ≤ _; rcases g3 with g3 | g3 <;> omega
/-! ### so many stands -/
theorem nat_nodup : ∀ (N : Nat) (l : List Nat), l.Nodup → (∀ x ∈ l, x < N) → l.length ≤ N
  | 0, l, _, h => by
    cases l with
    | nil => exact Nat.le_refl _
    | cons a t => exact absurd (h a (by simp)) (by omega)
  | N + 1, l, hn, h => by
    have ih := nat_nodup N (l.erase N) (hn.erase N) (fun x hx => by
      have := (hn.mem_erase_iff).mp hx
      have h2 := h x this.2
      omega)
    have := List.length_erase (a := N) (l := l)
    split at this <;> omega
theorem stands_few {rs : List Rw} {z : List Nat} {l : List (Int × Int)} (hn : l.Nodup) (hv : ∀ st ∈ l, Valid rs z st) : l.length ≤ (z.length + 2) * rs.length := by
  have h := nat_nodup ((z.length + 2) * rs.length) (l.map fun st => st.1.toNat * rs.length + st.2.toNat) ?_ ?_
  · rw [List.length_map] at h; exact h
  · unfold List.Nodup
    rw [List.pairwise_map]
    refine List.Pairwise.imp_of_mem (fun {a b} ha hb hab e => hab ?_) hn
    obtain ⟨a1, a2, a3, a4⟩ := hv a ha
    obtain ⟨b1, b2, b3, b4⟩ := hv b hb
    have hm : 0 < rs.length := by omega
    have e1 : (a.1.toNat * rs.length + a.2.toNat) / rs.length = (b.1.toNat * rs.length + b.2.toNat) / rs.length := by rw [e]
    have e2 : (a.1.toNat * rs.length + a.2.toNat) % rs.length = (b.1.toNat * rs.length + b.2.toNat) % rs.length := by rw [e]
    have ha2 : a.2.toNat < rs.length := by omega
    have hb2 : b.2.toNat < rs.length := by omega
    rw [Nat.mul_comm, Nat.mul_add_div hm, Nat.mul_comm b.1.toNat, Nat.mul_add_div hm, Nat.div_eq_of_lt ha2, Nat.div_eq_of_lt hb2] at e1
    rw [Nat.mul_comm, Nat.mul_add_mod, Nat.mul_comm b.1.toNat, Nat.mul_add_mod, Nat.mod_eq_of_lt ha2, Nat.mod_eq_of_lt hb2] at e2
    exact Prod.ext (by omega) (by omega)
  · intro x hx
    obtain ⟨st, hst, rfl⟩ := List.mem_map.mp hx
    obtain ⟨a1, a2, a3, a4⟩ := hv st hst
    have h1 : st.1.toNat + 1 ≤ z.length + 2 := by omega
    have h2 : st.2.toNat < rs.length := by omega
    calc st.1.toNat * rs.length + st.2.toNat < st.1.toNat * rs.length + rs.length := by omega
      _ = (st.1.toNat + 1) * rs.length := by rw [Nat.add_mul]; omega
      _ ≤ (z.length + 2) * rs.length := Nat.mul_le_mul_right _ h1
/-! ### the path -/
def pathF (rs : List Rw) (z : List Nat) : Nat → List (Int × Int) → Int × Int → List (Int × Int)
  | 0, ps, st => ps ++ [st]
  | k + 1, ps, st => if st ∈ ps then ps ++ [st] else match stepM rs z st with
    | none => ps ++ [st]
    | some st' => pathF rs z k (ps ++ [st]) st'
def pathB (rs : List Rw) (z : List Nat) : Nat := (z.length + 2) * rs.length
def pathM (rs : List Rw) (z : List Nat) : List (Int × Int) := pathF rs z (pathB rs z) [] (0, 0)
/-- underway: gone through ps, standing at st -/
structure Way (rs : List Rw) (z : List Nat) (ps : List (Int × Int)) (st : Int × Int) (k : Nat) : Prop where
  nd : ps.Nodup
  val : ∀ s ∈ ps ++ [st], Valid rs z s
  num : ps.length + k = pathB rs z
  res : pathF rs z k ps st = pathM rs z
theorem Way.start {rs : List Rw} {sg : Nat} {z : List Nat} (M : Mach rs sg) : Way rs z [] (0, 0) (pathB rs z) where
  nd := List.nodup_nil
  val := fun s hs => by
    obtain rfl : s = (0, 0) := by simpa using hs
    have := M.len
    exact ⟨Int.le_refl _, by show (0 : Int) ≤ _; omega, Int.le_refl _, by show (0 : Int) < _; omega⟩
  num := by simp
  res := rfl
theorem Way.here {rs : List Rw} {z : List Nat} {ps : List (Int × Int)} {st : Int × Int} {k : Nat} (W : Way rs z ps st k) : Valid rs z st := W.val st (by simp)
theorem Way.stop {rs : List Rw} {z : List Nat} {ps : List (Int × Int)} {st : Int × Int} {k : Nat} (W : Way rs z ps st k) (h : st ∈ ps) : ps ++ [st] = pathM rs z := by
  rw [← W.res]
  cases k with
  | zero => rfl
  | succ k => unfold pathF; rw [if_pos h]
theorem Way.more {rs : List Rw} {z : List Nat} {ps : List (Int × Int)} {st : Int × Int} {k : Nat} (W : Way rs z ps st k) (h : st ∉ ps) : ∃ j, k = j + 1 := by
  have hn : (ps ++ [st]).Nodup := by
    rw [List.nodup_append]
    exact ⟨W.nd, by simp, fun a ha b hb e => by rw [List.mem_singleton.mp hb] at e; exact h (e ▸ ha)⟩
  have := stands_few hn W.val
  rw [List.length_append] at this
  have hk := W.num
  unfold pathB at hk
  simp only [List.length_cons, List.length_nil] at this
  exact ⟨k - 1, by omega⟩
theorem Way.ends {rs : List Rw} {z : List Nat} {ps : List (Int × Int)} {st : Int × Int} {k : Nat} (W : Way rs z ps st k) (h : st ∉ ps) (e : stepM rs z st = none) : ps ++ [st] = pathM rs z := by
  obtain ⟨j, rfl⟩ := W.more h
  rw [← W.res]
  unfold pathF
  rw [if_neg h, e]
theorem Way.next {rs : List Rw} {sg : Nat} {z : List Nat} {ps : List (Int × Int)} {st st' : Int × Int} {k : Nat} (M : Mach rs sg) (S : Strip sg z) (W : Way rs z ps st (k + 1)) (h : st ∉ ps) (e : stepM rs z st = some st') : Way rs z (ps ++ [st]) st' k where
  nd := by
    rw [List.nodup_append]
    exact ⟨W.nd, by simp, fun a ha b hb e => by rw [List.mem_singleton.mp hb] at e; exact h (e ▸ ha)⟩
  val := fun s hs => by
    rcases List.mem_append.mp hs with q | q
    · exact W.val s q
    · rw [List.mem_singleton.mp q]; exact step_valid M S W.here e
  num := by rw [List.length_append]; have := W.num; simp; omega
  res := by
    rw [← W.res]
    conv => rhs; unfold pathF
    rw [if_neg h, e]
theorem path_len {rs : List Rw} {z : List Nat} {k : Nat} {ps : List (Int × Int)} {st : Int × Int} (W : ps.length + 1 + k ≤ 1010000) : (pathF rs z k ps st).length ≤ 1010000 := by
  induction k generalizing ps st with
  | zero => unfold pathF; rw [List.length_append]; simp; omega
  | succ k ih =>
    unfold pathF
    split
    · rw [List.length_append]; simp; omega
    · split
      · rw [List.length_append]; simp; omega
      · exact ih (by rw [List.length_append]; simp; omega)
/-! ### keys -/
def stdK (st : Int × Int) : List Key := [Sum.inl st.1, Sum.inl st.2]
theorem stdK_inj {a b : Int × Int} (h : stdK a = stdK b) : a = b := by
  unfold stdK at h
  injection h with h1 h2
  injection h2 with h2 _
  injection h1 with h1
  injection h2 with h2
  exact Prod.ext h1 h2
theorem has_std {ks : List (List Key × Addr)} {ps : List (Int × Int)} {st : Int × Int} (h : ks.map (·.1) = ps.map stdK) : hasK ks (stdK st) = decide (st ∈ ps) := by
  unfold hasK
  rw [Bool.eq_iff_iff, List.any_eq_true, decide_eq_true_iff]
  constructor
  · rintro ⟨p, hp, e⟩
    have e := of_decide_eq_true e
    have hm : stdK st ∈ ps.map stdK := by rw [← h]; exact List.mem_map.mpr ⟨p, hp, e⟩
    obtain ⟨s, hs, es⟩ := List.mem_map.mp hm
    rw [← stdK_inj es]; exact hs
  · intro hs
    have hm : stdK st ∈ ks.map (·.1) := by rw [h]; exact List.mem_map.mpr ⟨st, hs, rfl⟩
    obtain ⟨p, hp, e⟩ := List.mem_map.mp hm
    exact ⟨p, hp, decide_eq_true e⟩
theorem snoc_std {ks : List (List Key × Addr)} {ps : List (Int × Int)} {st : Int × Int} {b : Addr} (h : ks.map (·.1) = ps.map stdK) : (ks ++ [(stdK st, b)]).map (·.1) = (ps ++ [st]).map stdK := by
  rw [List.map_append, List.map_append, h]; rfl
end Mc
namespace L2
open PySem PySem.Spec PyProof.Rows
theorem strs_of : ∀ {ys : List Str} {us : List Value}, Vals (ys.map V.str) us → StrsAre us ys
  | [], _, .nil => .nil
  | y :: ys, _, .cons r t => by obtain ⟨t', rfl⟩ := r; exact .cons y t' (strs_of t)
def rJoin (K : PySem.W.Frag) : V → List V → Hp → VK → Prop := fun x vs H Q => ∃ (sep : Str) (a : Addr) (ys : List Str), x = .str sep ∧ vs = [.ref a] ∧ SqL K H a (ys.map V.str) ∧ (ys.map fun y => y.length).sum + ys.length * sep.length ≤ 16777216 ∧ Q (.str (Txt.join sep ys)) H
theorem mt_join {X : Cx} : MtR X "str.join" (rJoin X.K) := by
  intro pins s σ H x vs v us Q I rx rv h
  obtain ⟨sep, a, ys, rfl, rfl, ha, hz, q⟩ := h
  obtain ⟨t, rfl⟩ := rx
  obtain ⟨u, rfl, ru⟩ := rv.one
  cases (show u = Value.ref a from ru)
  obtain ⟨its, r, pl, _⟩ := I.list ha
  exact join_list (items := its.toArray) pl.isList (by simpa using strs_of r) hz fun t' k => ⟨.str _, H, I.tok _, ⟨_, rfl⟩, q⟩
end L2
namespace Mc
open PySem L2 PyProof.Rows
def one (c : Nat) : Str := ⟨#[c]⟩
theorem glue_fold (cs : List Nat) : ∀ (a : Array Nat), (List.foldl (fun acc p => acc ++ ("" : Str).cps ++ p.cps) a (cs.map one)).toList = a.toList ++ cs := by
  induction cs with
  | nil => intro a; simp
  | cons c t ih =>
    intro a
    rw [List.map_cons, List.foldl_cons, ih]
    have : ("" : Str).cps = #[] := rfl
    rw [this]
    simp [one]
theorem join_one (cs : List Nat) : (Txt.join "" (cs.map one)).cps.toList = cs := by
  unfold Txt.join Builtin.Str.glued
  cases cs with
  | nil => rfl
  | cons c t =>
    show (List.foldl _ (one c).cps (t.map one)).toList = _
    rw [glue_fold]; rfl
theorem sum_one (cs : List Nat) : ((cs.map one).map fun y => y.length).sum = cs.length := by
  induction cs with
  | nil => rfl
  | cons c t ih => rw [List.map_cons, List.map_cons, List.sum_cons, ih, List.length_cons]; show 1 + _ = _; omega
theorem str_ext {x y : Str} (h : x.cps.toList = y.cps.toList) : x = y := by
  cases x; cases y
  simp only [Str.mk.injEq]
  exact Array.toList_inj.mp h
theorem join_eq (cs : List Nat) : Txt.join "" (cs.map one) = ⟨cs.toArray⟩ := str_ext (by rw [join_one])
theorem abc_mod {k : Int} {sg : Nat} (h1 : 1 ≤ sg) (h3 : sg ≤ 3) : ∃ c, atI ("abc" : Str).cps.toList (k % (sg : Int)) = some c ∧ isSign sg c = true := by
  have h0 := Int.emod_nonneg k (show (sg : Int) ≠ 0 by omega)
  have h2 := Int.emod_lt_of_pos k (show (0 : Int) < sg by omega)
  obtain ⟨j, hj⟩ : ∃ j : Nat, k % (sg : Int) = j := ⟨(k % (sg : Int)).toNat, by omega⟩
  rw [hj] at h0 h2 ⊢
  refine ⟨97 + j, ?_, decide_eq_true (by omega)⟩
  obtain rfl | rfl | rfl : j = 0 ∨ j = 1 ∨ j = 2 := by omega
  all_goals decide +kernel
end Mc
namespace Mc
open PySem L2 PyProof.Rows
/-! ### goings with ways out -/
section
variable {S O : Type}
inductive Ex (st : S → Option (S ⊕ O)) : Nat → S → O → Prop
  | out {s : S} {o : O} (h : st s = some (.inr o)) : Ex st 0 s o
  | go {s s' : S} {o : O} {n : Nat} (h : st s = some (.inl s')) (t : Ex st n s' o) : Ex st (n + 1) s o
inductive Rc (st : S → Option (S ⊕ O)) : Nat → S → S → Prop
  | nil {s : S} : Rc st 0 s s
  | cons {s s' s'' : S} {n : Nat} (h : st s = some (.inl s')) (t : Rc st n s' s'') : Rc st (n + 1) s s''
variable {st : S → Option (S ⊕ O)}
theorem Ex.det {n n' : Nat} {s : S} {o o' : O} (a : Ex st n s o) (b : Ex st n' s o') : n = n' ∧ o = o' := by
  induction a generalizing n' o' with
  | out h =>
    cases b with
    | out h' => rw [h] at h'; cases h'; exact ⟨rfl, rfl⟩
    | go h' t => rw [h] at h'; cases h'
  | go h t ih =>
    cases b with
    | out h' => rw [h] at h'; cases h'
    | go h' t' =>
      rw [h] at h'; cases h'
      obtain ⟨e, e'⟩ := ih t'
      exact ⟨by omega, e'⟩
theorem Rc.ex {k n : Nat} {s s' : S} {o : O} (a : Rc st k s s') (b : Ex st n s o) : ∃ n', n = n' + k ∧ Ex st n' s' o := by
  induction a generalizing n with
  | nil => exact ⟨n, rfl, b⟩
  | cons h t ih =>
    cases b with
    | out h' => rw [h] at h'; cases h'
    | go h' t' =>
      rw [h] at h'; cases h'
      obtain ⟨n', e, q⟩ := ih t'
      exact ⟨n', by omega, q⟩
theorem Rc.to {k n : Nat} {s s' : S} {o : O} (a : Rc st k s s') (b : Ex st n s' o) : Ex st (n + k) s o := by
  induction a with
  | nil => exact b
  | cons h t ih => exact .go h (ih b)
theorem Rc.snoc {k : Nat} {s s' s'' : S} (a : Rc st k s s') (h : st s' = some (.inl s'')) : Rc st (k + 1) s s'' := by
  induction a with
  | nil => exact .cons h .nil
  | cons h' t ih => exact .cons h' (ih h)
theorem Rc.round {m n : Nat} {s : S} {o : O} (a : Rc st (m + 1) s s) : ¬ Ex st n s o := fun b => by
  obtain ⟨n', e, q⟩ := a.ex b
  have := (b.det q).1
  omega
def Res (st : S → Option (S ⊕ O)) (s : S) (r : Option O) : Prop := ∀ o, r = some o ↔ ∃ n, Ex st n s o
theorem Res.det {s : S} {r r' : Option O} (a : Res st s r) (b : Res st s r') : r = r' := by
  apply Option.ext
  intro o
  exact (a o).trans (b o).symm
theorem Res.out {s : S} {o : O} (h : st s = some (.inr o)) : Res st s (some o) := fun o' => by
  constructor
  · intro e; cases e; exact ⟨0, .out h⟩
  · rintro ⟨n, q⟩; rw [((Ex.out h).det q).2]
theorem Res.stuck {s : S} (h : st s = none) : Res st s none := fun o' => by
  constructor
  · intro e; cases e
  · rintro ⟨n, q⟩
    cases q with
    | out h' => rw [h] at h'; cases h'
    | go h' t => rw [h] at h'; cases h'
theorem Res.step {s s' : S} {r : Option O} (h : st s = some (.inl s')) (a : Res st s' r) : Res st s r := fun o => by
  rw [a o]
  constructor
  · rintro ⟨n, q⟩; exact ⟨n + 1, .go h q⟩
  · rintro ⟨n, q⟩
    cases q with
    | out h' => rw [h] at h'; cases h'
    | go h' t => rw [h] at h'; cases h'; exact ⟨_, t⟩
theorem Res.round {s : S} {m : Nat} (a : Rc st (m + 1) s s) : Res st s none := fun o => by
  constructor
  · intro e; cases e
  · rintro ⟨n, q⟩; exact absurd q a.round
open Classical in
noncomputable def resOf (st : S → Option (S ⊕ O)) (s : S) : Option O := if h : ∃ o n, Ex st n s o then some h.choose else none
theorem resOf_res (st : S → Option (S ⊕ O)) (s : S) : Res st s (resOf st s) := fun o => by
  unfold resOf
  by_cases h : ∃ o n, Ex st n s o
  · rw [dif_pos h]
    obtain ⟨n, q⟩ := h.choose_spec
    constructor
    · intro e; cases e; exact ⟨n, q⟩
    · rintro ⟨n', q'⟩; rw [(q.det q').2]
  · rw [dif_neg h]
    constructor
    · intro e; cases e
    · rintro ⟨n, q⟩; exact absurd ⟨o, n, q⟩ h
theorem Res.eq {s : S} {r : Option O} (a : Res st s r) : r = resOf st s := a.det (resOf_res st s)
theorem resOf_congr {S' : Type} {st' : S' → Option (S' ⊕ O)} {s : S} {s' : S'} (h : ∀ o, (∃ n, Ex st n s o) ↔ ∃ n, Ex st' n s' o) : resOf st s = resOf st' s' :=
  Option.ext fun o => ((resOf_res st s) o).trans ((h o).trans ((resOf_res st' s') o).symm)
/-- the loop that looks whether it was here before -/
structure Und2 (st : S → Option (S ⊕ O)) (s0 : S) (ps : List S) (s : S) : Prop where
  nd : ps.Nodup
  back : ∀ p ∈ ps, ∃ m, Rc st (m + 1) p s
  res : ∀ r, Res st s r → Res st s0 r
theorem Und2.start {s0 : S} : Und2 st s0 [] s0 := ⟨List.nodup_nil, fun p hp => by simp at hp, fun r h => h⟩
theorem Und2.next {s0 s s' : S} {ps : List S} (U : Und2 st s0 ps s) (hn : s ∉ ps) (h : st s = some (.inl s')) : Und2 st s0 (ps ++ [s]) s' where
  nd := by
    rw [List.nodup_append]
    exact ⟨U.nd, by simp, fun a ha b hb e => by rw [List.mem_singleton.mp hb] at e; exact hn (e ▸ ha)⟩
  back := fun p hp => by
    rcases List.mem_append.mp hp with q | q
    · obtain ⟨m, r⟩ := U.back p q; exact ⟨m + 1, r.snoc h⟩
    · rw [List.mem_singleton.mp q]; exact ⟨0, .cons h .nil⟩
  res := fun r a => U.res r (a.step h)
theorem Und2.met {s0 s : S} {ps : List S} (U : Und2 st s0 ps s) (h : s ∈ ps) : resOf st s0 = none := by
  obtain ⟨m, r⟩ := U.back s h
  exact ((U.res _ (Res.round r)).eq).symm
theorem Und2.outs {s0 s : S} {ps : List S} {o : O} (U : Und2 st s0 ps s) (h : st s = some (.inr o)) : resOf st s0 = some o := ((U.res _ (Res.out h)).eq).symm
theorem Und2.sticks {s0 s : S} {ps : List S} (U : Und2 st s0 ps s) (h : st s = none) : resOf st s0 = none := ((U.res _ (Res.stuck h)).eq).symm
end
/-! ### tables -/
abbrev Th := Option (Int × Int)
structure Tb where
  f : List Th
  a : List Th
def Tb.at (t : Tb) (w q : Int) : Th := (if w = 1 then t.f else t.a).getD q.toNat none
def thGood (m : Nat) : Th → Prop
  | none => True
  | some (d, q) => (d = 1 ∨ d = -1) ∧ 0 ≤ q ∧ q < (m : Int)
structure Tb.good (m : Nat) (t : Tb) : Prop where
  lf : t.f.length = m
  la : t.a.length = m
  gf : ∀ x ∈ t.f, thGood m x
  ga : ∀ x ∈ t.a, thGood m x
theorem Tb.good.at {m : Nat} {t : Tb} (h : t.good m) {w q : Int} (h0 : 0 ≤ q) (h1 : q < m) : (if w = 1 then t.f else t.a)[q.toNat]? = some (t.at w q) ∧ thGood m (t.at w q) := by
  have hl : q.toNat < (if w = 1 then t.f else t.a).length := by
    split
    · rw [h.lf]; omega
    · rw [h.la]; omega
  have e : (if w = 1 then t.f else t.a)[q.toNat]? = some (t.at w q) := by
    unfold Tb.at
    rw [List.getD_eq_getElem?_getD, List.getElem?_eq_getElem hl]; rfl
  refine ⟨e, ?_⟩
  have hm := List.mem_of_getElem? e
  split at hm
  · exact h.gf _ hm
  · exact h.ga _ hm
/-- going through boxes: (which box, the way of coming in, the room) -/
def boxSt (ts : List Tb) (s : Int × Int × Int) : Option ((Int × Int × Int) ⊕ (Int × Int)) :=
  match (ts.getD s.1.toNat ⟨[], []⟩).at s.2.1 s.2.2 with
  | none => none
  | some (w, q) => if 0 ≤ s.1 + w ∧ s.1 + w < (ts.length : Int) then some (.inl (s.1 + w, w, q)) else some (.inr (w, q))
noncomputable def boxTab (m : Nat) (ts : List Tb) : Tb := ⟨(List.range m).map fun q : Nat => resOf (boxSt ts) (0, 1, (q : Int)), (List.range m).map fun q : Nat => resOf (boxSt ts) ((ts.length : Int) - 1, -1, (q : Int))⟩
theorem boxTab_at {m : Nat} {ts : List Tb} {w q : Int} (h0 : 0 ≤ q) (h1 : q < m) : (boxTab m ts).at w q = if w = 1 then resOf (boxSt ts) (0, 1, q) else resOf (boxSt ts) ((ts.length : Int) - 1, -1, q) := by
  unfold Tb.at boxTab
  have hl : q.toNat < m := by omega
  have e : ((q.toNat : Nat) : Int) = q := by omega
  by_cases h : w = 1
  · rw [if_pos h, if_pos h, List.getD_eq_getElem?_getD, List.getElem?_map, List.getElem?_range hl]
    show (some (resOf (boxSt ts) (0, 1, ((q.toNat : Nat) : Int)))).getD none = _
    rw [e]; rfl
  · rw [if_neg h, if_neg h, List.getD_eq_getElem?_getD, List.getElem?_map, List.getElem?_range hl]
    show (some (resOf (boxSt ts) ((ts.length : Int) - 1, -1, ((q.toNat : Nat) : Int)))).getD none = _
    rw [e]; rfl
/-- all states that come up -/
def BoxV (m : Nat) (ts : List Tb) (s : Int × Int × Int) : Prop := 0 ≤ s.1 ∧ s.1 < (ts.length : Int) ∧ (s.2.1 = 1 ∨ s.2.1 = -1) ∧ 0 ≤ s.2.2 ∧ s.2.2 < (m : Int)
theorem box_get {ts : List Tb} {i : Int} (h0 : 0 ≤ i) (h1 : i < ts.length) : ∃ t, ts[i.toNat]? = some t ∧ ts.getD i.toNat ⟨[], []⟩ = t := by
  have hl : i.toNat < ts.length := by omega
  exact ⟨ts[i.toNat], by simp [hl], by rw [List.getD_eq_getElem?_getD, List.getElem?_eq_getElem hl]; rfl⟩
theorem box_step {m : Nat} {ts : List Tb} (hg : ∀ t ∈ ts, t.good m) {s : Int × Int × Int} (V : BoxV m ts s) : (boxSt ts s = none) ∨ (∃ s', boxSt ts s = some (.inl s') ∧ BoxV m ts s') ∨ ∃ w q, boxSt ts s = some (.inr (w, q)) ∧ (w = 1 ∨ w = -1) ∧ 0 ≤ q ∧ q < (m : Int) := by
  obtain ⟨v1, v2, v3, v4, v5⟩ := V
  obtain ⟨t, ht, e⟩ := box_get v1 v2
  have g := ((hg t (List.mem_of_getElem? ht)).at (w := s.2.1) v4 v5).2
  unfold boxSt
  rw [e]
  cases ha : t.at s.2.1 s.2.2 with
  | none => exact .inl rfl
  | some x =>
    obtain ⟨w, q⟩ := x
    rw [ha] at g
    obtain ⟨g1, g2, g3⟩ := g
    by_cases hi : 0 ≤ s.1 + w ∧ s.1 + w < (ts.length : Int)
    · exact .inr (.inl ⟨(s.1 + w, w, q), by simp only [if_pos hi], hi.1, hi.2, g1, g2, g3⟩)
    · exact .inr (.inr ⟨w, q, by simp only [if_neg hi], g1, g2, g3⟩)
theorem box_out {m : Nat} {ts : List Tb} (hg : ∀ t ∈ ts, t.good m) {n : Nat} {s : Int × Int × Int} {o : Int × Int} (V : BoxV m ts s) (h : Ex (boxSt ts) n s o) : (o.1 = 1 ∨ o.1 = -1) ∧ 0 ≤ o.2 ∧ o.2 < (m : Int) := by
  induction h with
  | out h =>
    rcases box_step hg V with e | ⟨s', e, _⟩ | ⟨w, q, e, g⟩
    · rw [h] at e; cases e
    · rw [h] at e; cases e
    · rw [h] at e; cases e; exact g
  | go h t ih =>
    rcases box_step hg V with e | ⟨s', e, V'⟩ | ⟨w, q, e, g⟩
    · rw [h] at e; cases e
    · rw [h] at e; cases e; exact ih V'
    · rw [h] at e; cases e
theorem boxTab_good {m : Nat} {ts : List Tb} (hg : ∀ t ∈ ts, t.good m) (hl : 1 ≤ ts.length) : (boxTab m ts).good m where
  lf := by unfold boxTab; simp
  la := by unfold boxTab; simp
  gf := fun x hx => by
    obtain ⟨q, hq, rfl⟩ := List.mem_map.mp hx
    have hq := List.mem_range.mp hq
    cases e : resOf (boxSt ts) (0, 1, (q : Int)) with
    | none => trivial
    | some o =>
      obtain ⟨n, h⟩ := ((resOf_res (boxSt ts) _) o).mp e
      exact box_out hg ⟨by show (0 : Int) ≤ 0; decide, by show (0 : Int) < _; omega, .inl rfl, by show (0 : Int) ≤ (q : Int); omega, by show (q : Int) < _; omega⟩ h
  ga := fun x hx => by
    obtain ⟨q, hq, rfl⟩ := List.mem_map.mp hx
    have hq := List.mem_range.mp hq
    cases e : resOf (boxSt ts) ((ts.length : Int) - 1, -1, (q : Int)) with
    | none => trivial
    | some o =>
      obtain ⟨n, h⟩ := ((resOf_res (boxSt ts) _) o).mp e
      exact box_out hg ⟨by show (0 : Int) ≤ (ts.length : Int) - 1; omega, by show (ts.length : Int) - 1 < _; omega, .inr rfl, by show (0 : Int) ≤ (q : Int); omega, by show (q : Int) < _; omega⟩ h
/-! ### a piece put together -/
/-- the place of the long row for one of the short row: mid stands at place k of the short row -/
def long (k n : Int) (s : Int × Int × Int) : Int × Int × Int := (if s.1 < k then s.1 else if s.1 = k then (if s.2.1 = 1 then k else k + n - 1) else s.1 + n - 1, s.2.1, s.2.2)
theorem getD_app1 {α : Type} {l1 l2 : List α} {i : Nat} {d : α} (h : i < l1.length) : (l1 ++ l2).getD i d = l1.getD i d := by
  rw [List.getD_eq_getElem?_getD, List.getD_eq_getElem?_getD, List.getElem?_append_left h]
theorem getD_app2 {α : Type} {l1 l2 : List α} {i : Nat} {d : α} (h : l1.length ≤ i) : (l1 ++ l2).getD i d = l2.getD (i - l1.length) d := by
  rw [List.getD_eq_getElem?_getD, List.getD_eq_getElem?_getD, List.getElem?_append_right h]
section
variable {m : Nat} {l1 mid l2 : List Tb}
/-- within mid the long row goes as mid alone does -/
theorem mid_at (i : Int) (h0 : 0 ≤ i) (h1 : i < mid.length) : (l1 ++ mid ++ l2).getD ((l1.length : Int) + i).toNat ⟨[], []⟩ = mid.getD i.toNat ⟨[], []⟩ := by
  have e : ((l1.length : Int) + i).toNat = l1.length + i.toNat := by omega
  rw [e, List.append_assoc, getD_app2 (by omega), show l1.length + i.toNat - l1.length = i.toNat by omega, getD_app1 (by omega)]
theorem short_at (c : Tb) (s : Int × Int × Int) (h0 : 0 ≤ s.1) (h1 : s.1 ≠ (l1.length : Int)) (hm : 1 ≤ mid.length) : (l1 ++ [c] ++ l2).getD s.1.toNat ⟨[], []⟩ = (l1 ++ mid ++ l2).getD (long l1.length mid.length s).1.toNat ⟨[], []⟩ := by
  unfold long
  by_cases h : s.1 < (l1.length : Int)
  · simp only [if_pos h]
    rw [List.append_assoc, List.append_assoc, getD_app1 (by omega), getD_app1 (by omega)]
  · simp only [if_neg h, if_neg h1]
    have e : (s.1 + (mid.length : Int) - 1).toNat = s.1.toNat + mid.length - 1 := by omega
    have e1 : (l1 ++ [c]).length = l1.length + 1 := by simp
    have e2 : (l1 ++ mid).length = l1.length + mid.length := by simp
    rw [e, getD_app2 (by rw [e1]; omega), getD_app2 (by rw [e2]; omega), e1, e2]
    congr 1
    omega
theorem short_c (c : Tb) : (l1 ++ [c] ++ l2).getD ((l1.length : Int)).toNat ⟨[], []⟩ = c := by
  rw [List.append_assoc, getD_app2 (by omega)]
  have : (l1.length : Int).toNat - l1.length = 0 := by omega
  rw [this]; rfl
/-- out of mid: then on in the long row -/
theorem mid_out (hg : ∀ t ∈ mid, t.good m) {k : Nat} {i w q : Int} {o : Int × Int} (V : BoxV m mid (i, w, q)) (h : Ex (boxSt mid) k (i, w, q) o) : ∃ i' w' q', BoxV m mid (i', w', q') ∧ Rc (boxSt (l1 ++ mid ++ l2)) k ((l1.length : Int) + i, w, q) ((l1.length : Int) + i', w', q') ∧
    (mid.getD i'.toNat ⟨[], []⟩).at w' q' = some o ∧ ¬ (0 ≤ i' + o.1 ∧ i' + o.1 < (mid.length : Int)) := by
  generalize hs : ((i, w, q) : Int × Int × Int) = s at h V
  induction h generalizing i w q with
  | @out s o h =>
    subst hs
    refine ⟨i, w, q, V, .nil, ?_⟩
    unfold boxSt at h
    dsimp only at h
    cases ha : (mid.getD i.toNat ⟨[], []⟩).at w q with
    | none => rw [ha] at h; cases h
    | some x =>
      obtain ⟨w1, q1⟩ := x
      rw [ha] at h
      dsimp only at h
      by_cases hi : 0 ≤ i + w1 ∧ i + w1 < (mid.length : Int)
      · rw [if_pos hi] at h; cases h
      · rw [if_neg hi] at h; cases h; exact ⟨rfl, hi⟩
  | @go s s' o n h t ih =>
    subst hs
    have V' : BoxV m mid s' := by
      rcases box_step hg V with e | ⟨s1, e, V'⟩ | ⟨_, _, e, _⟩
      · rw [h] at e; cases e
      · rw [h] at e; cases e; exact V'
      · rw [h] at e; cases e
    obtain ⟨i1, w1, q1⟩ := s'
    obtain ⟨i', w', q', a, b, c⟩ := ih (i := i1) (w := w1) (q := q1) rfl V'
    refine ⟨i', w', q', a, .cons ?_ b, c⟩
    unfold boxSt at h ⊢
    dsimp only at h ⊢
    rw [mid_at i V.1 V.2.1]
    cases ha : (mid.getD i.toNat ⟨[], []⟩).at w q with
    | none => rw [ha] at h; cases h
    | some x =>
      obtain ⟨w2, q2⟩ := x
      rw [ha] at h
      dsimp only at h ⊢
      by_cases hi : 0 ≤ i + w2 ∧ i + w2 < (mid.length : Int)
      · rw [if_pos hi] at h
        cases h
        rw [if_pos]
        · rw [show (l1.length : Int) + i + w1 = (l1.length : Int) + (i + w1) by omega]
        · simp only [List.length_append]; omega
      · rw [if_neg hi] at h; cases h
/-- the other way round: what goes out of the long row, goes out of mid first -/
theorem mid_in (hg : ∀ t ∈ mid, t.good m) {n : Nat} {i w q : Int} {o : Int × Int} (V : BoxV m mid (i, w, q)) (h : Ex (boxSt (l1 ++ mid ++ l2)) n ((l1.length : Int) + i, w, q) o) :
    ∃ k i' w' q' o', Ex (boxSt mid) k (i, w, q) o' ∧ BoxV m mid (i', w', q') ∧ (mid.getD i'.toNat ⟨[], []⟩).at w' q' = some o' ∧ ¬ (0 ≤ i' + o'.1 ∧ i' + o'.1 < (mid.length : Int)) ∧ ∃ j, j ≤ n ∧ Ex (boxSt (l1 ++ mid ++ l2)) j ((l1.length : Int) + i', w', q') o := by
  induction n generalizing i w q with
  | zero =>
    cases ha : (mid.getD i.toNat ⟨[], []⟩).at w q with
    | none =>
      cases h with
      | out h => unfold boxSt at h; dsimp only at h; rw [mid_at i V.1 V.2.1, ha] at h; cases h
    | some x =>
      obtain ⟨w1, q1⟩ := x
      by_cases hi : 0 ≤ i + w1 ∧ i + w1 < (mid.length : Int)
      · cases h with
        | out h =>
          unfold boxSt at h; dsimp only at h
          rw [mid_at i V.1 V.2.1, ha] at h
          dsimp only at h
          rw [if_pos (by simp only [List.length_append]; omega)] at h
          cases h
      · refine ⟨0, i, w, q, (w1, q1), .out ?_, V, ha, hi, 0, Nat.le_refl _, h⟩
        unfold boxSt; dsimp only
        rw [ha]; dsimp only; rw [if_neg hi]
  | succ n ih =>
    cases ha : (mid.getD i.toNat ⟨[], []⟩).at w q with
    | none =>
      cases h with
      | go h t => unfold boxSt at h; dsimp only at h; rw [mid_at i V.1 V.2.1, ha] at h; cases h
    | some x =>
      obtain ⟨w1, q1⟩ := x
      by_cases hi : 0 ≤ i + w1 ∧ i + w1 < (mid.length : Int)
      · have hs : boxSt mid (i, w, q) = some (.inl (i + w1, w1, q1)) := by
          unfold boxSt; dsimp only; rw [ha]; dsimp only; rw [if_pos hi]
        have V' : BoxV m mid (i + w1, w1, q1) := by
          rcases box_step hg V with e | ⟨s1, e, V'⟩ | ⟨_, _, e, _⟩
          · rw [hs] at e; cases e
          · rw [hs] at e; cases e; exact V'
          · rw [hs] at e; cases e
        cases h with
        | go h t =>
          unfold boxSt at h; dsimp only at h
          rw [mid_at i V.1 V.2.1, ha] at h
          dsimp only at h
          rw [if_pos (by simp only [List.length_append]; omega)] at h
          cases h
          rw [show (l1.length : Int) + i + w1 = (l1.length : Int) + (i + w1) by omega] at t
          obtain ⟨k, i', w', q', o', a, b, c, d, j, hj, e⟩ := ih V' t
          exact ⟨k + 1, i', w', q', o', .go hs a, b, c, d, j, by omega, e⟩
      · refine ⟨0, i, w, q, (w1, q1), .out ?_, V, ha, hi, n + 1, Nat.le_refl _, h⟩
        unfold boxSt; dsimp only
        rw [ha]; dsimp only; rw [if_neg hi]
theorem long_step (c : Tb) (hm : 1 ≤ mid.length) {s : Int × Int × Int} {w' q' : Int} (hi : s.1 ≠ (l1.length : Int)) (h0 : 0 ≤ s.1) (h1 : s.1 < ((l1 ++ [c] ++ l2).length : Int)) (hw : w' = 1 ∨ w' = -1) :
    (0 ≤ s.1 + w' ∧ s.1 + w' < ((l1 ++ [c] ++ l2).length : Int) ↔ 0 ≤ (long l1.length mid.length s).1 + w' ∧ (long l1.length mid.length s).1 + w' < ((l1 ++ mid ++ l2).length : Int)) ∧
    (0 ≤ s.1 + w' ∧ s.1 + w' < ((l1 ++ [c] ++ l2).length : Int) → long l1.length mid.length (s.1 + w', w', q') = ((long l1.length mid.length s).1 + w', w', q')) := by
  simp only [List.length_append, List.length_cons, List.length_nil] at h1 ⊢
  unfold long
  dsimp only
  refine ⟨?_, fun hh => ?_⟩
  · by_cases h : s.1 < (l1.length : Int)
    · rw [if_pos h]; omega
    · rw [if_neg h, if_neg hi]; omega
  · refine Prod.ext ?_ rfl
    show (if s.1 + w' < (l1.length : Int) then s.1 + w' else if s.1 + w' = (l1.length : Int) then (if w' = 1 then (l1.length : Int) else (l1.length : Int) + (mid.length : Int) - 1) else s.1 + w' + (mid.length : Int) - 1) = (if s.1 < (l1.length : Int) then s.1 else if s.1 = (l1.length : Int) then (if s.2.1 = 1 then (l1.length : Int) else (l1.length : Int) + (mid.length : Int) - 1) else s.1 + (mid.length : Int) - 1) + w'
    rw [if_neg hi]
    rcases hw with rfl | rfl
    · by_cases h : s.1 < (l1.length : Int)
      · rw [if_pos h]
        by_cases h2 : s.1 + 1 < (l1.length : Int)
        · rw [if_pos h2]
        · rw [if_neg h2, if_pos (by omega), if_pos rfl]; omega
      · rw [if_neg h, if_neg (by omega), if_neg (by omega)]; omega
    · by_cases h : s.1 < (l1.length : Int)
      · rw [if_pos h, if_pos (by omega)]
      · rw [if_neg h, if_neg (by omega)]
        by_cases h2 : s.1 + -1 = (l1.length : Int)
        · rw [if_pos h2, if_neg (by decide)]; omega
        · rw [if_neg h2]; omega
/-- what mid tells at its place -/
theorem c_at {w q : Int} (hw : w = 1 ∨ w = -1) (h0 : 0 ≤ q) (h1 : q < (m : Int)) (hm : 1 ≤ mid.length) : (boxTab m mid).at w q = resOf (boxSt mid) ((if w = 1 then 0 else (mid.length : Int) - 1), w, q) := by
  rw [boxTab_at h0 h1]
  rcases hw with rfl | rfl
  · rw [if_pos rfl, if_pos rfl]
  · rw [if_neg (by decide), if_neg (by decide)]
theorem comp_iff (hg1 : ∀ t ∈ l1, t.good m) (hg : ∀ t ∈ mid, t.good m) (hg2 : ∀ t ∈ l2, t.good m) (hm : 1 ≤ mid.length) {s : Int × Int × Int} {o : Int × Int} (V : BoxV m (l1 ++ [boxTab m mid] ++ l2) s) :
    (∃ n, Ex (boxSt (l1 ++ [boxTab m mid] ++ l2)) n s o) ↔ ∃ n, Ex (boxSt (l1 ++ mid ++ l2)) n (long l1.length mid.length s) o := by
  have hgs : ∀ t ∈ l1 ++ [boxTab m mid] ++ l2, t.good m := fun t ht => by
    rcases List.mem_append.mp ht with y | y
    · rcases List.mem_append.mp y with y | y
      · exact hg1 t y
      · rw [List.mem_singleton.mp y]; exact boxTab_good hg hm
    · exact hg2 t y
  have Lm : ∀ {s : Int × Int × Int}, s.1 = (l1.length : Int) → long l1.length mid.length s = ((l1.length : Int) + (if s.2.1 = 1 then 0 else (mid.length : Int) - 1), s.2.1, s.2.2) := fun {s} h => by
    unfold long
    rw [if_neg (by omega), if_pos h]
    by_cases h1 : s.2.1 = 1
    · rw [if_pos h1, if_pos h1, Int.add_zero]
    · rw [if_neg h1, if_neg h1, Int.add_sub_assoc]
  have Vm : ∀ {s : Int × Int × Int}, BoxV m (l1 ++ [boxTab m mid] ++ l2) s → BoxV m mid ((if s.2.1 = 1 then 0 else (mid.length : Int) - 1), s.2.1, s.2.2) := fun {s} V => by
    obtain ⟨_, _, v3, v4, v5⟩ := V
    refine ⟨?_, ?_, v3, v4, v5⟩
    · show (0 : Int) ≤ if s.2.1 = 1 then 0 else (mid.length : Int) - 1; split <;> omega
    · show (if s.2.1 = 1 then (0 : Int) else (mid.length : Int) - 1) < _; split <;> omega
  -- leaving mid at i' with o': the same way on
  have leave : ∀ {i' : Int} {o' : Int × Int}, 0 ≤ i' → i' < (mid.length : Int) → (o'.1 = 1 ∨ o'.1 = -1) → ¬ (0 ≤ i' + o'.1 ∧ i' + o'.1 < (mid.length : Int)) →
      (0 ≤ (l1.length : Int) + o'.1 ∧ (l1.length : Int) + o'.1 < ((l1 ++ [boxTab m mid] ++ l2).length : Int) ↔ 0 ≤ (l1.length : Int) + i' + o'.1 ∧ (l1.length : Int) + i' + o'.1 < ((l1 ++ mid ++ l2).length : Int)) ∧
      long l1.length mid.length ((l1.length : Int) + o'.1, o'.1, o'.2) = ((l1.length : Int) + i' + o'.1, o'.1, o'.2) := fun {i' o'} a b hw h => by
    simp only [List.length_append, List.length_cons, List.length_nil]
    refine ⟨by rcases hw with e | e <;> rw [e] at h ⊢ <;> omega, ?_⟩
    unfold long
    refine Prod.ext ?_ rfl
    show (if (l1.length : Int) + o'.1 < (l1.length : Int) then (l1.length : Int) + o'.1 else if (l1.length : Int) + o'.1 = (l1.length : Int) then (if o'.1 = 1 then (l1.length : Int) else (l1.length : Int) + (mid.length : Int) - 1) else (l1.length : Int) + o'.1 + (mid.length : Int) - 1) = (l1.length : Int) + i' + o'.1
    rcases hw with e | e
    · rw [e] at h ⊢; rw [if_neg (by omega), if_neg (by omega)]; omega
    · rw [e] at h ⊢; rw [if_pos (by omega)]; omega
  constructor
  · rintro ⟨n, h⟩
    induction h with
    | @out s o h =>
      by_cases hi : s.1 = (l1.length : Int)
      · unfold boxSt at h
        rw [hi, short_c, c_at V.2.2.1 V.2.2.2.1 V.2.2.2.2 hm] at h
        cases hr : resOf (boxSt mid) ((if s.2.1 = 1 then 0 else (mid.length : Int) - 1), s.2.1, s.2.2) with
        | none => rw [hr] at h; cases h
        | some o' =>
          rw [hr] at h
          obtain ⟨k, hk⟩ := ((resOf_res (boxSt mid) _) o').mp hr
          have ho := box_out hg (Vm V) hk
          obtain ⟨i', w', q', V', rc, ha, hn⟩ := mid_out (l1 := l1) (l2 := l2) hg (Vm V) hk
          obtain ⟨lv1, lv2⟩ := leave V'.1 V'.2.1 ho.1 hn
          obtain ⟨ow, oq⟩ := o'
          dsimp only at h
          by_cases hin : 0 ≤ (l1.length : Int) + ow ∧ (l1.length : Int) + ow < ((l1 ++ [boxTab m mid] ++ l2).length : Int)
          · rw [if_pos hin] at h; cases h
          · rw [if_neg hin] at h; cases h
            rw [Lm hi]
            refine ⟨0 + k, rc.to (.out ?_)⟩
            unfold boxSt; dsimp only
            rw [mid_at i' V'.1 V'.2.1, ha]; dsimp only
            rw [if_neg fun z => hin (lv1.mpr z)]
      · refine ⟨0, .out ?_⟩
        have hs := h
        unfold boxSt at h ⊢
        rw [← short_at (boxTab m mid) s V.1 hi hm]
        show (match ((l1 ++ [boxTab m mid] ++ l2).getD s.1.toNat ⟨[], []⟩).at s.2.1 s.2.2 with | none => none | some (w, q) => if 0 ≤ (long l1.length mid.length s).1 + w ∧ (long l1.length mid.length s).1 + w < ((l1 ++ mid ++ l2).length : Int) then some (Sum.inl ((long l1.length mid.length s).1 + w, w, q)) else some (Sum.inr (w, q))) = _
        have gd : ∃ t, t.good m ∧ (l1 ++ [boxTab m mid] ++ l2).getD s.1.toNat ⟨[], []⟩ = t := by
          obtain ⟨t, ht, e⟩ := box_get V.1 V.2.1
          exact ⟨t, hgs t (List.mem_of_getElem? ht), e⟩
        obtain ⟨t, tg, te⟩ := gd
        rw [te] at h ⊢
        have g := (tg.at (w := s.2.1) V.2.2.2.1 V.2.2.2.2).2
        cases ha : t.at s.2.1 s.2.2 with
        | none => rw [ha] at h; cases h
        | some x =>
          obtain ⟨w1, q1⟩ := x
          rw [ha] at h g
          obtain ⟨l1s, _⟩ := long_step (l2 := l2) (boxTab m mid) hm (q' := q1) hi V.1 V.2.1 g.1
          dsimp only at h ⊢
          by_cases hin : 0 ≤ s.1 + w1 ∧ s.1 + w1 < ((l1 ++ [boxTab m mid] ++ l2).length : Int)
          · rw [if_pos hin] at h; cases h
          · rw [if_neg hin] at h; cases h
            rw [if_neg fun z => hin (l1s.mpr z)]
    | @go s s' o n h t ih =>
      have V' : BoxV m (l1 ++ [boxTab m mid] ++ l2) s' := by
        rcases box_step hgs V with e | ⟨s1, e, V'⟩ | ⟨_, _, e, _⟩
        · rw [h] at e; cases e
        · rw [h] at e; cases e; exact V'
        · rw [h] at e; cases e
      obtain ⟨j, hj⟩ := ih V'
      by_cases hi : s.1 = (l1.length : Int)
      · unfold boxSt at h
        rw [hi, short_c, c_at V.2.2.1 V.2.2.2.1 V.2.2.2.2 hm] at h
        cases hr : resOf (boxSt mid) ((if s.2.1 = 1 then 0 else (mid.length : Int) - 1), s.2.1, s.2.2) with
        | none => rw [hr] at h; cases h
        | some o' =>
          rw [hr] at h
          obtain ⟨k, hk⟩ := ((resOf_res (boxSt mid) _) o').mp hr
          have ho := box_out hg (Vm V) hk
          obtain ⟨i', w', q', Vi, rc, ha, hn⟩ := mid_out (l1 := l1) (l2 := l2) hg (Vm V) hk
          obtain ⟨lv1, lv2⟩ := leave Vi.1 Vi.2.1 ho.1 hn
          obtain ⟨ow, oq⟩ := o'
          dsimp only at h lv2
          by_cases hin : 0 ≤ (l1.length : Int) + ow ∧ (l1.length : Int) + ow < ((l1 ++ [boxTab m mid] ++ l2).length : Int)
          · rw [if_pos hin] at h; cases h
            rw [lv2] at hj
            rw [Lm hi]
            refine ⟨j + 1 + k, rc.to (.go ?_ hj)⟩
            unfold boxSt; dsimp only
            rw [mid_at i' Vi.1 Vi.2.1, ha]; dsimp only
            rw [if_pos (lv1.mp hin)]
          · rw [if_neg hin] at h; cases h
      · refine ⟨j + 1, .go ?_ hj⟩
        unfold boxSt at h ⊢
        rw [← short_at (boxTab m mid) s V.1 hi hm]
        show (match ((l1 ++ [boxTab m mid] ++ l2).getD s.1.toNat ⟨[], []⟩).at s.2.1 s.2.2 with | none => none | some (w, q) => if 0 ≤ (long l1.length mid.length s).1 + w ∧ (long l1.length mid.length s).1 + w < ((l1 ++ mid ++ l2).length : Int) then some (Sum.inl ((long l1.length mid.length s).1 + w, w, q)) else some (Sum.inr (w, q))) = _
        obtain ⟨t', ht', te⟩ := box_get V.1 V.2.1
        have tg := hgs t' (List.mem_of_getElem? ht')
        rw [te] at h ⊢
        have g := (tg.at (w := s.2.1) V.2.2.2.1 V.2.2.2.2).2
        cases ha : t'.at s.2.1 s.2.2 with
        | none => rw [ha] at h; cases h
        | some x =>
          obtain ⟨w1, q1⟩ := x
          rw [ha] at h g
          obtain ⟨l1s, l2s⟩ := long_step (l2 := l2) (boxTab m mid) hm (q' := q1) hi V.1 V.2.1 g.1
          dsimp only at h ⊢
          by_cases hin : 0 ≤ s.1 + w1 ∧ s.1 + w1 < ((l1 ++ [boxTab m mid] ++ l2).length : Int)
          · rw [if_pos hin] at h; cases h
            rw [if_pos (l1s.mp hin), l2s hin]
          · rw [if_neg hin] at h; cases h
  · rintro ⟨n, h⟩
    induction n using Nat.strongRecOn generalizing s with
    | _ n ih =>
      by_cases hi : s.1 = (l1.length : Int)
      · rw [Lm hi] at h
        obtain ⟨k, i', w', q', o', hk, Vi, ha, hn, j, hj, he⟩ := mid_in (l1 := l1) (l2 := l2) hg (Vm V) h
        have ho := box_out hg (Vm V) hk
        obtain ⟨lv1, lv2⟩ := leave Vi.1 Vi.2.1 ho.1 hn
        have hr : resOf (boxSt mid) ((if s.2.1 = 1 then 0 else (mid.length : Int) - 1), s.2.1, s.2.2) = some o' := ((resOf_res (boxSt mid) _) o').mpr ⟨k, hk⟩
        have hst : boxSt (l1 ++ [boxTab m mid] ++ l2) s = if 0 ≤ s.1 + o'.1 ∧ s.1 + o'.1 < ((l1 ++ [boxTab m mid] ++ l2).length : Int) then some (Sum.inl (s.1 + o'.1, o'.1, o'.2)) else some (Sum.inr (o'.1, o'.2)) := by
          unfold boxSt
          rw [show (l1 ++ [boxTab m mid] ++ l2).getD s.1.toNat ⟨[], []⟩ = boxTab m mid by rw [hi]; exact short_c _, c_at V.2.2.1 V.2.2.2.1 V.2.2.2.2 hm, hr]
        have hlg : boxSt (l1 ++ mid ++ l2) ((l1.length : Int) + i', w', q') = if 0 ≤ (l1.length : Int) + i' + o'.1 ∧ (l1.length : Int) + i' + o'.1 < ((l1 ++ mid ++ l2).length : Int) then some (Sum.inl ((l1.length : Int) + i' + o'.1, o'.1, o'.2)) else some (Sum.inr (o'.1, o'.2)) := by
          unfold boxSt; dsimp only
          rw [mid_at i' Vi.1 Vi.2.1, ha]
        rw [hi] at hst
        by_cases hin : 0 ≤ (l1.length : Int) + o'.1 ∧ (l1.length : Int) + o'.1 < ((l1 ++ [boxTab m mid] ++ l2).length : Int)
        · rw [if_pos hin] at hst
          rw [if_pos (lv1.mp hin)] at hlg
          have V' : BoxV m (l1 ++ [boxTab m mid] ++ l2) ((l1.length : Int) + o'.1, o'.1, o'.2) := ⟨hin.1, hin.2, ho.1, ho.2.1, ho.2.2⟩
          cases he with
          | out h' => rw [hlg] at h'; cases h'
          | @go _ _ _ j' h' t =>
            rw [hlg] at h'; cases h'
            rw [← lv2] at t
            obtain ⟨r, hr'⟩ := ih j' (by omega) V' t
            exact ⟨r + 1, .go hst hr'⟩
        · rw [if_neg hin] at hst
          rw [if_neg fun z => hin (lv1.mpr z)] at hlg
          cases he with
          | out h' => rw [hlg] at h'; cases h'; exact ⟨0, .out hst⟩
          | go h' t => rw [hlg] at h'; cases h'
      · obtain ⟨t', ht', te⟩ := box_get V.1 V.2.1
        have tg := hgs t' (List.mem_of_getElem? ht')
        have g := (tg.at (w := s.2.1) V.2.2.2.1 V.2.2.2.2).2
        have hlg : ∀ x, boxSt (l1 ++ mid ++ l2) (long l1.length mid.length s) = x → (match t'.at s.2.1 s.2.2 with | none => none | some (w, q) => if 0 ≤ (long l1.length mid.length s).1 + w ∧ (long l1.length mid.length s).1 + w < ((l1 ++ mid ++ l2).length : Int) then some (Sum.inl ((long l1.length mid.length s).1 + w, w, q)) else some (Sum.inr (w, q))) = x := fun x hx => by
          unfold boxSt at hx
          rw [← short_at (boxTab m mid) s V.1 hi hm, te] at hx
          exact hx
        cases h with
        | @out _ _ h =>
          have h' := hlg _ h
          refine ⟨0, .out ?_⟩
          unfold boxSt
          rw [te]
          cases ha : t'.at s.2.1 s.2.2 with
          | none => rw [ha] at h'; cases h'
          | some x =>
            obtain ⟨w1, q1⟩ := x
            rw [ha] at h' g
            obtain ⟨l1s, l2s⟩ := long_step (l2 := l2) (boxTab m mid) hm (q' := q1) hi V.1 V.2.1 g.1
            dsimp only at h' ⊢
            by_cases hin : 0 ≤ s.1 + w1 ∧ s.1 + w1 < ((l1 ++ [boxTab m mid] ++ l2).length : Int)
            · rw [if_pos (l1s.mp hin)] at h'; cases h'
            · rw [if_neg fun z => hin (l1s.mpr z)] at h'; cases h'
              rw [if_neg hin]
        | @go _ s' _ n' h t =>
          have h' := hlg _ h
          cases ha : t'.at s.2.1 s.2.2 with
          | none => rw [ha] at h'; cases h'
          | some x =>
            obtain ⟨w1, q1⟩ := x
            rw [ha] at h' g
            obtain ⟨l1s, l2s⟩ := long_step (l2 := l2) (boxTab m mid) hm (q' := q1) hi V.1 V.2.1 g.1
            dsimp only at h'
            by_cases hin : 0 ≤ s.1 + w1 ∧ s.1 + w1 < ((l1 ++ [boxTab m mid] ++ l2).length : Int)
            · rw [if_pos (l1s.mp hin), ← l2s hin] at h'; cases h'
              have V' : BoxV m (l1 ++ [boxTab m mid] ++ l2) (s.1 + w1, w1, q1) := ⟨hin.1, hin.2, g.1, g.2.1, g.2.2⟩
              obtain ⟨r, hr'⟩ := ih n' (by omega) V' t
              refine ⟨r + 1, .go ?_ hr'⟩
              unfold boxSt
              rw [te, ha]; dsimp only
              rw [if_pos hin]
            · rw [if_neg fun z => hin (l1s.mpr z)] at h'; cases h'
/-- brackets tell nothing -/
theorem box_comp (hg1 : ∀ t ∈ l1, t.good m) (hg : ∀ t ∈ mid, t.good m) (hg2 : ∀ t ∈ l2, t.good m) (hm : 1 ≤ mid.length) : boxTab m (l1 ++ [boxTab m mid] ++ l2) = boxTab m (l1 ++ mid ++ l2) := by
  have hl : ((l1 ++ [boxTab m mid] ++ l2).length : Int) = (l1.length : Int) + 1 + (l2.length : Int) := by simp; omega
  have hl2 : ((l1 ++ mid ++ l2).length : Int) = (l1.length : Int) + (mid.length : Int) + (l2.length : Int) := by simp; omega
  unfold boxTab
  congr 1
  · refine List.map_congr_left fun q hq => resOf_congr fun o => ?_
    have hq := List.mem_range.mp hq
    rw [← boxTab, comp_iff hg1 hg hg2 hm ⟨by show (0 : Int) ≤ 0; decide, by show (0 : Int) < _; omega, .inl rfl, by show (0 : Int) ≤ (q : Int); omega, by show (q : Int) < _; omega⟩]
    have e : long l1.length mid.length (0, 1, (q : Int)) = (0, 1, (q : Int)) := by
      unfold long
      refine Prod.ext ?_ rfl
      show (if (0 : Int) < (l1.length : Int) then (0 : Int) else if (0 : Int) = (l1.length : Int) then (if (1 : Int) = 1 then (l1.length : Int) else (l1.length : Int) + (mid.length : Int) - 1) else 0 + (mid.length : Int) - 1) = 0
      by_cases h : (0 : Int) < (l1.length : Int)
      · rw [if_pos h]
      · rw [if_neg h, if_pos (by omega), if_pos rfl]; omega
    rw [e]
  · refine List.map_congr_left fun q hq => resOf_congr fun o => ?_
    have hq := List.mem_range.mp hq
    rw [← boxTab, comp_iff hg1 hg hg2 hm ⟨by show (0 : Int) ≤ _ - 1; omega, by show _ - 1 < _; omega, .inr rfl, by show (0 : Int) ≤ (q : Int); omega, by show (q : Int) < _; omega⟩]
    have e : long l1.length mid.length (((l1 ++ [boxTab m mid] ++ l2).length : Int) - 1, -1, (q : Int)) = (((l1 ++ mid ++ l2).length : Int) - 1, -1, (q : Int)) := by
      unfold long
      refine Prod.ext ?_ rfl
      show (if ((l1 ++ [boxTab m mid] ++ l2).length : Int) - 1 < (l1.length : Int) then ((l1 ++ [boxTab m mid] ++ l2).length : Int) - 1 else if ((l1 ++ [boxTab m mid] ++ l2).length : Int) - 1 = (l1.length : Int) then (if (-1 : Int) = 1 then (l1.length : Int) else (l1.length : Int) + (mid.length : Int) - 1) else ((l1 ++ [boxTab m mid] ++ l2).length : Int) - 1 + (mid.length : Int) - 1) = ((l1 ++ mid ++ l2).length : Int) - 1
      rw [hl, hl2, if_neg (by omega)]
      by_cases h : (l2.length : Int) = 0
      · rw [if_pos (by omega), if_neg (by decide)]; omega
      · rw [if_neg (by omega)]; omega
    rw [e]
end
end Mc
namespace Mc
open PySem L2 PyProof.Rows
/-! ### so many states -/
theorem codes_few {S : Type} (f : S → Nat) (N : Nat) (l : List S) (hn : l.Nodup) (hf : ∀ s ∈ l, f s < N) (hi : ∀ a ∈ l, ∀ b ∈ l, f a = f b → a = b) : l.length ≤ N := by
  have h := nat_nodup N (l.map f) ?_ ?_
  · rw [List.length_map] at h; exact h
  · unfold List.Nodup
    rw [List.pairwise_map]
    exact List.Pairwise.imp_of_mem (fun {a b} ha hb hab e => hab (hi a ha b hb e)) hn
  · intro x hx
    obtain ⟨s, hs, rfl⟩ := List.mem_map.mp hx
    exact hf s hs
def PairV (m : Nat) (s : Int × Int) : Prop := (s.1 = 1 ∨ s.1 = -1) ∧ 0 ≤ s.2 ∧ s.2 < (m : Int)
theorem pair_few {m : Nat} {l : List (Int × Int)} (hn : l.Nodup) (hv : ∀ s ∈ l, PairV m s) : l.length ≤ 2 * m := by
  refine codes_few (fun s => (if s.1 = 1 then 0 else m) + s.2.toNat) (2 * m) l hn (fun s hs => ?_) (fun a ha b hb e => ?_)
  · obtain ⟨h1, h2, h3⟩ := hv s hs
    split <;> omega
  · obtain ⟨a1, a2, a3⟩ := hv a ha
    obtain ⟨b1, b2, b3⟩ := hv b hb
    refine Prod.ext ?_ ?_
    · rcases a1 with a1 | a1 <;> rcases b1 with b1 | b1 <;> rw [a1, b1] at e ⊢
      · rw [if_pos rfl, if_neg (by decide)] at e; omega
      · rw [if_neg (by decide), if_pos rfl] at e; omega
    · rcases a1 with a1 | a1 <;> rcases b1 with b1 | b1 <;> rw [a1, b1] at e
      · omega
      · rw [if_pos rfl, if_neg (by decide)] at e; omega
      · rw [if_neg (by decide), if_pos rfl] at e; omega
      · omega
/-! ### two tables side by side -/
/-- (the way, the room) of what goes over the border between them -/
def goneSt (a b : Tb) (s : Int × Int) : Option ((Int × Int) ⊕ (Int × Int)) :=
  match (if s.1 = 1 then b.at 1 s.2 else a.at (-1) s.2) with
  | none => none
  | some (w, q) => if w = -s.1 then some (.inl (w, q)) else some (.inr (w, q))
def gonePl (s : Int × Int) : Int × Int × Int := ((if s.1 = 1 then 1 else 0), s.1, s.2)
theorem gone_box {a b : Tb} {m : Nat} (ha : a.good m) (hb : b.good m) {s : Int × Int} (V : PairV m s) : (goneSt a b s = none ∧ boxSt [a, b] (gonePl s) = none) ∨ (∃ s', goneSt a b s = some (.inl s') ∧ boxSt [a, b] (gonePl s) = some (.inl (gonePl s')) ∧ PairV m s') ∨ ∃ o, goneSt a b s = some (.inr o) ∧ boxSt [a, b] (gonePl s) = some (.inr o) := by
  obtain ⟨w, q⟩ := s
  obtain ⟨v1, v2, v3⟩ := V
  dsimp only at v1 v2 v3
  have e0 : ([a, b].getD (0 : Int).toNat ⟨[], []⟩) = a := rfl
  have e1 : ([a, b].getD (1 : Int).toNat ⟨[], []⟩) = b := rfl
  rcases v1 with rfl | rfl
  · have g := (hb.at (w := 1) v2 v3).2
    cases h : b.at 1 q with
    | none => exact .inl ⟨by unfold goneSt; dsimp only; rw [if_pos rfl, h], by unfold boxSt gonePl; dsimp only; rw [if_pos rfl, e1, h]⟩
    | some x =>
      obtain ⟨w', q'⟩ := x
      rw [h] at g
      obtain ⟨g1, g2, g3⟩ := g
      rcases g1 with rfl | rfl
      · refine .inr (.inr ⟨(1, q'), by unfold goneSt; dsimp only; rw [if_pos rfl, h]; dsimp only; rw [if_neg (by decide)], ?_⟩)
        unfold boxSt gonePl; dsimp only; rw [if_pos rfl, e1, h]; dsimp only
        rw [if_neg (by show ¬ (0 ≤ (1 : Int) + 1 ∧ (1 : Int) + 1 < 2); decide)]
      · refine .inr (.inl ⟨(-1, q'), by unfold goneSt; dsimp only; rw [if_pos rfl, h]; dsimp only; rw [if_pos rfl], ?_, .inr rfl, g2, g3⟩)
        unfold boxSt gonePl; dsimp only; rw [if_pos rfl, e1, h]; dsimp only
        rw [if_pos (by show (0 ≤ (1 : Int) + -1 ∧ (1 : Int) + -1 < 2); decide), if_neg (by decide)]; rfl
  · have g := (ha.at (w := -1) v2 v3).2
    cases h : a.at (-1) q with
    | none => exact .inl ⟨by unfold goneSt; dsimp only; rw [if_neg (by decide), h], by unfold boxSt gonePl; dsimp only; rw [if_neg (by decide), e0, h]⟩
    | some x =>
      obtain ⟨w', q'⟩ := x
      rw [h] at g
      obtain ⟨g1, g2, g3⟩ := g
      rcases g1 with rfl | rfl
      · refine .inr (.inl ⟨(1, q'), by unfold goneSt; dsimp only; rw [if_neg (by decide), h]; dsimp only; rw [if_pos (by decide)], ?_, .inl rfl, g2, g3⟩)
        unfold boxSt gonePl; dsimp only; rw [if_neg (by decide), e0, h]; dsimp only
        rw [if_pos (by show (0 ≤ (0 : Int) + 1 ∧ (0 : Int) + 1 < 2); decide), if_pos rfl]; rfl
      · refine .inr (.inr ⟨(-1, q'), by unfold goneSt; dsimp only; rw [if_neg (by decide), h]; dsimp only; rw [if_neg (by decide)], ?_⟩)
        unfold boxSt gonePl; dsimp only; rw [if_neg (by decide), e0, h]; dsimp only
        rw [if_neg (by show ¬ (0 ≤ (0 : Int) + -1 ∧ (0 : Int) + -1 < 2); decide)]
theorem gone_res {a b : Tb} {m : Nat} (ha : a.good m) (hb : b.good m) {s : Int × Int} (V : PairV m s) : resOf (goneSt a b) s = resOf (boxSt [a, b]) (gonePl s) := by
  refine resOf_congr fun o => ⟨?_, ?_⟩
  · rintro ⟨n, h⟩
    refine ⟨n, ?_⟩
    induction h with
    | out h =>
      rcases gone_box ha hb V with ⟨e, _⟩ | ⟨s', e, _⟩ | ⟨o', e, g⟩
      · rw [h] at e; cases e
      · rw [h] at e; cases e
      · rw [h] at e; cases e; exact .out g
    | go h t ih =>
      rcases gone_box ha hb V with ⟨e, _⟩ | ⟨s', e, g, V'⟩ | ⟨o', e, g⟩
      · rw [h] at e; cases e
      · rw [h] at e; cases e; exact .go g (ih V')
      · rw [h] at e; cases e
  · rintro ⟨n, h⟩
    refine ⟨n, ?_⟩
    generalize hs : gonePl s = p at h
    induction h generalizing s with
    | out h =>
      subst hs
      rcases gone_box ha hb V with ⟨_, e⟩ | ⟨s', _, e, _⟩ | ⟨o', g, e⟩
      · rw [h] at e; cases e
      · rw [h] at e; cases e
      · rw [h] at e; cases e; exact .out g
    | go h t ih =>
      subst hs
      rcases gone_box ha hb V with ⟨_, e⟩ | ⟨s', g, e, V'⟩ | ⟨o', _, e⟩
      · rw [h] at e; cases e
      · rw [h] at e; cases e; exact .go g (ih V' rfl)
      · rw [h] at e; cases e
/-- what gone_out tells -/
noncomputable def goneR (a b : Tb) (th : Th) (w : Int) : Th :=
  match th with
  | none => none
  | some (d, q) => if d = w then resOf (goneSt a b) (d, q) else some (d, q)
theorem resOf_go {S O : Type} {st : S → Option (S ⊕ O)} {s s' : S} (h : st s = some (.inl s')) : resOf st s = resOf st s' := (((resOf_res st s').step h).eq).symm
theorem resOf_out {S O : Type} {st : S → Option (S ⊕ O)} {s : S} {o : O} (h : st s = some (.inr o)) : resOf st s = some o := ((Res.out h).eq).symm
theorem resOf_none {S O : Type} {st : S → Option (S ⊕ O)} {s : S} (h : st s = none) : resOf st s = none := ((Res.stuck h).eq).symm
theorem gone_fore {a b : Tb} {m : Nat} (ha : a.good m) (hb : b.good m) {q : Int} (h0 : 0 ≤ q) (h1 : q < (m : Int)) : goneR a b (a.at 1 q) 1 = resOf (boxSt [a, b]) (0, 1, q) := by
  have g := (ha.at (w := 1) h0 h1).2
  have e : ([a, b].getD (0 : Int).toNat ⟨[], []⟩) = a := rfl
  cases h : a.at 1 q with
  | none =>
    rw [resOf_none (by unfold boxSt; dsimp only; rw [e, h])]; rfl
  | some x =>
    obtain ⟨w, q'⟩ := x
    rw [h] at g
    obtain ⟨g1, g2, g3⟩ := g
    rcases g1 with rfl | rfl
    · rw [resOf_go (s' := (1, 1, q')) (by unfold boxSt; dsimp only; rw [e, h]; dsimp only; rw [if_pos (by show (0 ≤ (0 : Int) + 1 ∧ (0 : Int) + 1 < 2); decide)]; rfl)]
      show (if (1 : Int) = 1 then resOf (goneSt a b) (1, q') else some (1, q')) = _
      rw [if_pos rfl, gone_res ha hb ⟨.inl rfl, g2, g3⟩]; rfl
    · rw [resOf_out (o := (-1, q')) (by unfold boxSt; dsimp only; rw [e, h]; dsimp only; rw [if_neg (by show ¬ (0 ≤ (0 : Int) + -1 ∧ (0 : Int) + -1 < 2); decide)])]
      show (if (-1 : Int) = 1 then resOf (goneSt a b) (-1, q') else some (-1, q')) = _
      rw [if_neg (by decide)]
theorem gone_aft {a b : Tb} {m : Nat} (ha : a.good m) (hb : b.good m) {q : Int} (h0 : 0 ≤ q) (h1 : q < (m : Int)) : goneR a b (b.at (-1) q) (-1) = resOf (boxSt [a, b]) (1, -1, q) := by
  have g := (hb.at (w := -1) h0 h1).2
  have e : ([a, b].getD (1 : Int).toNat ⟨[], []⟩) = b := rfl
  cases h : b.at (-1) q with
  | none =>
    rw [resOf_none (by unfold boxSt; dsimp only; rw [e, h])]; rfl
  | some x =>
    obtain ⟨w, q'⟩ := x
    rw [h] at g
    obtain ⟨g1, g2, g3⟩ := g
    rcases g1 with rfl | rfl
    · rw [resOf_out (o := (1, q')) (by unfold boxSt; dsimp only; rw [e, h]; dsimp only; rw [if_neg (by show ¬ (0 ≤ (1 : Int) + 1 ∧ (1 : Int) + 1 < 2); decide)])]
      show (if (1 : Int) = -1 then resOf (goneSt a b) (1, q') else some (1, q')) = _
      rw [if_neg (by decide)]
    · rw [resOf_go (s' := (0, -1, q')) (by unfold boxSt; dsimp only; rw [e, h]; dsimp only; rw [if_pos (by show (0 ≤ (1 : Int) + -1 ∧ (1 : Int) + -1 < 2); decide)]; rfl)]
      show (if (-1 : Int) = -1 then resOf (goneSt a b) (-1, q') else some (-1, q')) = _
      rw [if_pos rfl, gone_res ha hb ⟨.inr rfl, g2, g3⟩]; rfl
/-- behind, as a table -/
theorem behind_f {a b : Tb} {m : Nat} (ha : a.good m) (hb : b.good m) : a.f.map (fun th => goneR a b th 1) = (boxTab m [a, b]).f := by
  refine List.ext_getElem? fun i => ?_
  show _ = ((List.range m).map _)[i]?
  rw [List.getElem?_map, List.getElem?_map]
  by_cases hi : i < m
  · rw [List.getElem?_range hi]
    have := (ha.at (w := 1) (q := (i : Int)) (by omega) (by omega)).1
    rw [if_pos rfl] at this
    rw [show ((i : Int)).toNat = i by omega] at this
    rw [this]
    show some (goneR a b (a.at 1 (i : Int)) 1) = _
    rw [gone_fore ha hb (by omega) (by omega)]; rfl
  · rw [List.getElem?_eq_none (by rw [ha.lf]; omega), List.getElem?_eq_none (by simp; omega)]; rfl
theorem behind_a {a b : Tb} {m : Nat} (ha : a.good m) (hb : b.good m) : b.a.map (fun th => goneR a b th (-1)) = (boxTab m [a, b]).a := by
  refine List.ext_getElem? fun i => ?_
  show _ = ((List.range m).map _)[i]?
  rw [List.getElem?_map, List.getElem?_map]
  by_cases hi : i < m
  · rw [List.getElem?_range hi]
    have := (hb.at (w := -1) (q := (i : Int)) (by omega) (by omega)).1
    rw [if_neg (by decide)] at this
    rw [show ((i : Int)).toNat = i by omega] at this
    rw [this]
    show some (goneR a b (b.at (-1) (i : Int)) (-1)) = _
    rw [gone_aft ha hb (by omega) (by omega)]; rfl
  · rw [List.getElem?_eq_none (by rw [hb.la]; omega), List.getElem?_eq_none (by simp; omega)]; rfl
/-! ### as data -/
def thD : Th → PyData
  | none => .none
  | some (d, q) => thingD d q
def tbD (t : Tb) : PyData := tabD (t.f.map thD) (t.a.map thD)
theorem th_thing (x : Th) : IsThing (thD x) := by
  cases x with
  | none => exact .inl rfl
  | some o => exact .inr ⟨o.1, o.2, rfl⟩
theorem tb_things (l : List Th) : ∀ d ∈ l.map thD, IsThing d := fun d hd => by
  obtain ⟨x, _, rfl⟩ := List.mem_map.mp hd
  exact th_thing x
def stillT (m : Nat) : Tb := ⟨(List.range m).map fun q : Nat => some (1, (q : Int)), (List.range m).map fun q : Nat => some (-1, (q : Int))⟩
theorem still_D (m : Nat) : tbD (stillT m) = tabD (stillF m) (stillA m) := by
  unfold tbD stillT stillF stillA
  rw [List.map_map, List.map_map]; rfl
theorem still_good (m : Nat) : (stillT m).good m where
  lf := by unfold stillT; simp
  la := by unfold stillT; simp
  gf := fun x hx => by
    obtain ⟨q, hq, rfl⟩ := List.mem_map.mp hx
    have := List.mem_range.mp hq
    exact ⟨.inl rfl, by omega, by omega⟩
  ga := fun x hx => by
    obtain ⟨q, hq, rfl⟩ := List.mem_map.mp hx
    have := List.mem_range.mp hq
    exact ⟨.inr rfl, by omega, by omega⟩
theorem still_at {m : Nat} {w q : Int} (hw : w = 1 ∨ w = -1) (h0 : 0 ≤ q) (h1 : q < (m : Int)) : (stillT m).at w q = some (w, q) := by
  unfold Tb.at stillT
  have hl : q.toNat < m := by omega
  have e : ((q.toNat : Nat) : Int) = q := by omega
  rcases hw with rfl | rfl
  · rw [if_pos rfl, List.getD_eq_getElem?_getD, List.getElem?_map, List.getElem?_range hl]
    show (some (some ((1 : Int), ((q.toNat : Nat) : Int)))).getD none = _
    rw [e]; rfl
  · rw [if_neg (by decide), List.getD_eq_getElem?_getD, List.getElem?_map, List.getElem?_range hl]
    show (some (some ((-1 : Int), ((q.toNat : Nat) : Int)))).getD none = _
    rw [e]; rfl
theorem tb_ext {m : Nat} {a b : Tb} (ha : a.good m) (hb : b.good m) (h : ∀ (w q : Int), (w = 1 ∨ w = -1) → 0 ≤ q → q < (m : Int) → a.at w q = b.at w q) : a = b := by
  have key : ∀ w : Int, (w = 1 ∨ w = -1) → (if w = 1 then a.f else a.a) = (if w = 1 then b.f else b.a) := fun w hw => by
    refine List.ext_getElem? fun i => ?_
    by_cases hi : i < m
    · have e1 := (ha.at (w := w) (q := (i : Int)) (by omega) (by omega)).1
      have e2 := (hb.at (w := w) (q := (i : Int)) (by omega) (by omega)).1
      rw [show ((i : Int)).toNat = i by omega] at e1 e2
      rw [e1, e2, h w i hw (by omega) (by omega)]
    · rw [List.getElem?_eq_none (by split; rw [ha.lf]; omega; rw [ha.la]; omega), List.getElem?_eq_none (by split; rw [hb.lf]; omega; rw [hb.la]; omega)]
  have f := key 1 (.inl rfl)
  have g := key (-1) (.inr rfl)
  rw [if_pos rfl, if_pos rfl] at f
  rw [if_neg (by decide), if_neg (by decide)] at g
  cases a; cases b
  dsimp only at f g
  rw [f, g]
theorem one_box {m : Nat} {t : Tb} (h : t.good m) : boxTab m [t] = t := by
  refine tb_ext (boxTab_good (fun x hx => by rw [List.mem_singleton.mp hx]; exact h) (by simp)) h fun w q hw h0 h1 => ?_
  rw [boxTab_at h0 h1]
  have g := (h.at (w := w) h0 h1).2
  have key : resOf (boxSt [t]) (0, w, q) = t.at w q := by
    have e : ([t].getD (0 : Int).toNat ⟨[], []⟩) = t := rfl
    cases hh : t.at w q with
    | none => exact resOf_none (by unfold boxSt; dsimp only; rw [e, hh])
    | some x =>
      obtain ⟨w', q'⟩ := x
      rw [hh] at g
      refine resOf_out (by unfold boxSt; dsimp only; rw [e, hh]; dsimp only; rw [if_neg]; rcases g.1 with rfl | rfl <;> (show ¬ (0 ≤ (0 : Int) + _ ∧ (0 : Int) + _ < 1); decide))
  rcases hw with rfl | rfl
  · rw [if_pos rfl]; exact key
  · rw [if_neg (by decide)]; exact key
theorem still_left {m : Nat} {t : Tb} (h : t.good m) : boxTab m [stillT m, t] = t := by
  have hg : ∀ x ∈ [stillT m, t], x.good m := fun x hx => by
    rcases List.mem_cons.mp hx with z | z
    · rw [z]; exact still_good m
    · rw [List.mem_singleton.mp z]; exact h
  have e0 : ([stillT m, t].getD (0 : Int).toNat ⟨[], []⟩) = stillT m := rfl
  have e1 : ([stillT m, t].getD (1 : Int).toNat ⟨[], []⟩) = t := rfl
  refine tb_ext (boxTab_good hg (by simp)) h fun w q hw h0 h1 => ?_
  have inner : ∀ w : Int, resOf (boxSt [stillT m, t]) (1, w, q) = t.at w q := fun w => by
    have g := (h.at (w := w) h0 h1).2
    cases hh : t.at w q with
    | none => exact resOf_none (by unfold boxSt; dsimp only; rw [e1, hh])
    | some x =>
      obtain ⟨w', q'⟩ := x
      rw [hh] at g
      obtain ⟨g1, g2, g3⟩ := g
      rcases g1 with rfl | rfl
      · exact resOf_out (by unfold boxSt; dsimp only; rw [e1, hh]; dsimp only; rw [if_neg (by show ¬ (0 ≤ (1 : Int) + 1 ∧ (1 : Int) + 1 < 2); decide)])
      · rw [resOf_go (s' := (0, -1, q')) (by unfold boxSt; dsimp only; rw [e1, hh]; dsimp only; rw [if_pos (by show (0 ≤ (1 : Int) + -1 ∧ (1 : Int) + -1 < 2); decide)]; rfl)]
        exact resOf_out (by unfold boxSt; dsimp only; rw [e0, still_at (.inr rfl) g2 g3]; dsimp only; rw [if_neg (by show ¬ (0 ≤ (0 : Int) + -1 ∧ (0 : Int) + -1 < 2); decide)])
  rw [boxTab_at h0 h1]
  rcases hw with rfl | rfl
  · rw [if_pos rfl, resOf_go (s' := (1, 1, q)) (by unfold boxSt; dsimp only; rw [e0, still_at (.inl rfl) h0 h1]; dsimp only; rw [if_pos (by show (0 ≤ (0 : Int) + 1 ∧ (0 : Int) + 1 < 2); decide)]; rfl)]
    exact inner 1
  · rw [if_neg (by decide)]; exact inner (-1)
theorem still_right {m : Nat} {t : Tb} (h : t.good m) : boxTab m [t, stillT m] = t := by
  have hg : ∀ x ∈ [t, stillT m], x.good m := fun x hx => by
    rcases List.mem_cons.mp hx with z | z
    · rw [z]; exact h
    · rw [List.mem_singleton.mp z]; exact still_good m
  have e0 : ([t, stillT m].getD (0 : Int).toNat ⟨[], []⟩) = t := rfl
  have e1 : ([t, stillT m].getD (1 : Int).toNat ⟨[], []⟩) = stillT m := rfl
  refine tb_ext (boxTab_good hg (by simp)) h fun w q hw h0 h1 => ?_
  have inner : ∀ w : Int, resOf (boxSt [t, stillT m]) (0, w, q) = t.at w q := fun w => by
    have g := (h.at (w := w) h0 h1).2
    cases hh : t.at w q with
    | none => exact resOf_none (by unfold boxSt; dsimp only; rw [e0, hh])
    | some x =>
      obtain ⟨w', q'⟩ := x
      rw [hh] at g
      obtain ⟨g1, g2, g3⟩ := g
      rcases g1 with rfl | rfl
      · rw [resOf_go (s' := (1, 1, q')) (by unfold boxSt; dsimp only; rw [e0, hh]; dsimp only; rw [if_pos (by show (0 ≤ (0 : Int) + 1 ∧ (0 : Int) + 1 < 2); decide)]; rfl)]
        exact resOf_out (by unfold boxSt; dsimp only; rw [e1, still_at (.inl rfl) g2 g3]; dsimp only; rw [if_neg (by show ¬ (0 ≤ (1 : Int) + 1 ∧ (1 : Int) + 1 < 2); decide)])
      · exact resOf_out (by unfold boxSt; dsimp only; rw [e0, hh]; dsimp only; rw [if_neg (by show ¬ (0 ≤ (0 : Int) + -1 ∧ (0 : Int) + -1 < 2); decide)])
  rw [boxTab_at h0 h1]
  rcases hw with rfl | rfl
  · rw [if_pos rfl]; exact inner 1
  · rw [if_neg (by decide), resOf_go (s' := (0, -1, q)) (by unfold boxSt; dsimp only; show (match ([t, stillT m].getD (1 : Int).toNat ⟨[], []⟩).at (-1) q with | none => none | some (w, q) => if 0 ≤ (2 : Int) - 1 + w ∧ (2 : Int) - 1 + w < 2 then some (Sum.inl ((2 : Int) - 1 + w, w, q)) else some (Sum.inr (w, q))) = _; rw [e1, still_at (.inr rfl) h0 h1]; rfl)]
    exact inner (-1)
end Mc
namespace L2
open PySem PySem.Spec PyProof.Rows
/-! ### over the signs of a text -/
def Its (z : Str) : It := ⟨fun i _ => i < z.cps.size, fun i H x H' => H' = H ∧ ∃ c, z.cps[i]? = some c ∧ x = .str ⟨#[c]⟩, fun i _ => i = z.cps.size⟩
theorem turn_str {P : Program} {w : World} {K : PySem.W.Frag} {tg : Expr} (z : Str) (t : Tok) (T : String) (hT : ∀ A : Around, A.handled = none → ∀ it, Walks P w A it [it] [it] z.cps.size (SignAt z) fun i h => h.IsStrIter it T z t i)
    (hself : ∀ (A : Around) (it : Addr) (i : Nat) (s : Shared) (Q E : Value → Shared → Prop), s.heap.IsStrIter it T z t i → Q (.ref it) s → wpAny (model P w) A (pyIter (.ref it)) Q E s)
    (hno : ["enumerate", "zip", "dict_itemiterator", "dict_reverseitemiterator", "odict_iterator", "itertools.zip_longest", "itertools.pairwise"].contains T = false) (it : Addr) : Turn P w K tg (Its z) [it] it (fun i h => h.IsStrIter it T z t i) where
  mem := by simp
  obj := fun i h st b hb => by
    obtain rfl : b = it := by simpa using hb
    obtain ⟨o, e, c, d⟩ := st
    exact ⟨o, e, fun v z => by rw [d] at z; cases z⟩
  keep := fun i h h' st k => by
    obtain ⟨o, e, c, d⟩ := st
    exact ⟨o, k it (by simp) o e, c, d⟩
  item := by
    intro X hP hw hK hc i pins s σ H E I hf st hg
    subst hP hw hK
    obtain ⟨f0, f1, f2, f3, f4, f5⟩ := hf it (by simp)
    refine (hT X.A (I.ok.hd hc) it).item i s _ E hg st fun v h' tk hv st' kp => ?_
    obtain ⟨c, tc, hcc, rfl⟩ := hv
    have I1 : Inv X pins σ H { s with heap := h', toks := tk } := I.turned (t' := tk) (it := it) (fun b o hb e => kp b o (by simpa using hb) e) f0 f1 f3 f4 f5
    obtain ⟨o, e, cc, d⟩ := id st'
    exact ⟨_, rfl, go_of (s := { s with heap := h', toks := tk }) e cc d hno ⟨.str ⟨#[c]⟩, H, I1, ⟨_, rfl⟩, ⟨rfl, c, hcc, rfl⟩, st', fun b hb => (hf b hb).1⟩⟩
  done := by
    intro X hP hw hK hc i pins s σ H E I hf st hg
    subst hP hw hK
    obtain ⟨f0, f1, f2, f3, f4, f5⟩ := hf it (by simp)
    have hg : i = z.cps.size := hg
    subst hg
    exact (hT X.A (I.ok.hd hc) it).done s _ E st fun h' tk kp => ⟨rfl, I.turned (t' := tk) (it := it) (fun b o hb e => kp b o (by simpa using hb) e) f0 f1 f3 f4 f5⟩
  self := fun A i s Q E st h => hself A it i s Q E st h
def iStr (te : TE) : TI := fun σ H R => te σ H fun x H1 => ∃ z, x = .str z ∧ R (Its z) H1
theorem pi_str {X : Cx} {tg l : Expr} {tl : TE} (hl : PE X l tl) : PI X tg l (iStr tl) := by
  intro pins s σ H R I h
  refine thn (hl pins s σ H _ I h) fun v s1 ⟨x, H1, I1, r1, q1⟩ => ?_
  obtain ⟨z, e, q⟩ := q1
  subst e
  obtain ⟨t, rfl⟩ := r1
  refine wpAny_pyIter_strU ?_
  have I2 : Inv X pins σ H1 { s1 with heap := s1.heap.push { cls := .type (strIterType z), data := .fields #[.str z t, .int 0 0] } } := I1.kept (t' := s1.toks) fun b o e => Heap.get?_push_of_some _ e
  have st : (s1.heap.push { cls := .type (strIterType z), data := .fields #[.str z t, .int 0 0] }).IsStrIter s1.heap.objs.size (strIterType z) z t 0 := ⟨_, Heap.get?_push_size _ rfl, rfl, rfl⟩
  have fin : ∀ b ∈ [s1.heap.objs.size], FpOk X pins H1 b := fun b hb => by
    obtain rfl := List.mem_singleton.mp hb
    exact I1.fpOk (Nat.le_refl _) (I1.hok.fresh (Nat.le_refl _))
  by_cases ha : (z.cps.all fun x => decide (x < 128)) = true
  · have eT : strIterType z = "str_ascii_iterator" := by unfold strIterType; rw [if_pos ha]
    rw [eT] at st I2 ⊢
    exact ⟨s1.heap.objs.size, [s1.heap.objs.size], _, _, H1, rfl, I2, turn_str z t "str_ascii_iterator" (fun A hA it => Walks.strAscii hA it z t) (fun A it i s Q E st h => wpAny_pyIter_striter_ascii st h) (by decide) _, st, fin, q⟩
  · have eT : strIterType z = "str_iterator" := by unfold strIterType; rw [if_neg ha]
    rw [eT] at st I2 ⊢
    exact ⟨s1.heap.objs.size, [s1.heap.objs.size], _, _, H1, rfl, I2, turn_str z t "str_iterator" (fun A hA it => Walks.strWide hA it z t) (fun A it i s Q E st h => wpAny_pyIter_striter_wide st h) (by decide) _, st, fin, q⟩
theorem for_str {z : Str} {g : TG} {tb : TS} {D : Ends} {σ : St} {H : Hp} (Pv : Nat → St → Hp → Prop) (h0 : Pv 0 σ H)
    (hs : ∀ i c σ H, z.cps[i]? = some c → Pv i σ H → g (.str ⟨#[c]⟩) σ H fun σ2 H2 => tb { D with nx := Pv (i + 1), ct := Pv (i + 1), bk := D.nx } σ2 H2) (hd : ∀ σ H, Pv z.cps.size σ H → D.nx σ H) :
    ∃ W : Nat → Nat → St → Hp → Prop, (∃ m, W 0 m σ H) ∧ ∀ i m σ H, W i m σ H →
      ((Its z).stop i H ∧ D.nx σ H) ∨ ((Its z).go i H ∧ ∃ N : St → Hp → Prop, (∀ σ' H', N σ' H' → ∃ m', m' < m ∧ W (i + 1) m' σ' H') ∧ ∀ x H', (Its z).yld i H x H' → g x σ H' fun σ2 H2 => tb { D with nx := N, ct := N, bk := D.nx } σ2 H2) := by
  refine ⟨fun i m σ H => m = z.cps.size - i ∧ i ≤ z.cps.size ∧ Pv i σ H, ⟨z.cps.size, by simp, Nat.zero_le _, h0⟩, ?_⟩
  rintro i m σ H ⟨rfl, hi, p⟩
  by_cases hlt : i < z.cps.size
  · refine .inr ⟨hlt, Pv (i + 1), fun σ' H' p' => ⟨z.cps.size - (i + 1), by omega, rfl, hlt, p'⟩, fun x H' y => ?_⟩
    obtain ⟨rfl, c, hc, rfl⟩ := y
    exact hs i c σ _ hc p
  · have e : i = z.cps.size := by omega
    subst e
    exact .inl ⟨rfl, hd σ H p⟩
theorem comp_str {X : Cx} {z : Str} {N : List Str} {scope : Scope} {js : List (Option Nat)} {tg elt : Expr} {ifs : List Expr} {σ : St} {Q : VK} {H1 : Hp} (W : Nat → List V → Hp → Prop) (hz : z.cps.size ≤ sizeLine) (w0 : W 0 [] H1)
    (hl : ∀ i ys H, i ≤ z.cps.size → W i ys H → ys.length ≤ i)
    (step : ∀ i c ys H, z.cps[i]? = some c → W i ys H → BlockOk X N scope js tg elt ifs σ (.str ⟨#[c]⟩) H (compR W i ys))
    (done : ∀ ys H, W z.cps.size ys H → ∀ p, H p = none → Q (.ref p) (upd H p (.lst ys))) :
    compK X N scope js tg elt ifs σ Q (Its z) H1 :=
  comp_of W hz w0 hl (fun i ys H h w => h) (fun ys H w => rfl)
    (fun i x ys H H' h w y => by
      obtain ⟨e, c, hc, rfl⟩ := y
      subst e
      exact step i c ys _ hc w) done
theorem vals_of : ∀ {xs : List V} {ys : List Value}, xs.length = ys.length → (∀ (i : Nat) x y, xs[i]? = some x → ys[i]? = some y → RelV x y) → Vals xs ys
  | [], [], _, _ => .nil
  | [], _ :: _, h, _ => by simp at h
  | _ :: _, [], h, _ => by simp at h
  | x :: xs, y :: ys, h, f => .cons (f 0 x y rfl rfl) (vals_of (by simpa using h) fun i a b h1 h2 => f (i + 1) a b (by simpa using h1) (by simpa using h2))
/-! ### list(range(n)) -/
theorem call_rangeO {X : Cx} : CallR X (.type "range") (fun xs H Q => ∃ n : Nat, xs = [.int n] ∧ n ≤ 1000000 ∧ ∀ p, H p = none → Q (.ref p) (upd H p (.rng 0 n))) := by
  intro pins s σ H xs us Q I r h
  obtain ⟨n, rfl, hn, q⟩ := h
  obtain ⟨u, rfl, t, rfl⟩ := vals1 r
  refine call_range_1 ?_
  refine ⟨.ref s.heap.objs.size, _, I.laid (o := .rng 0 n) (fun b ob q => Heap.get?_push_of_some _ q) (Nat.le_refl _) ⟨_, _, _, Heap.get?_push_size _ rfl⟩, rfl, q _ (I.hok.fresh (Nat.le_refl _))⟩
theorem call_list_rng {X : Cx} (hc : X.calm = true) : CallR X (.type "list") (fun xs H Q => ∃ (p : Addr) (n : Nat), xs = [.ref p] ∧ H p = some (.rng 0 n) ∧ n ≤ 1000000 ∧ ∀ l, H l = none → Q (.ref l) (upd H l (.lst ((List.range n).map fun i : Nat => V.int (i : Int))))) := by
  intro pins s σ H xs us Q I r h
  obtain ⟨p, n, rfl, hp, hn, q⟩ := h
  obtain ⟨u, rfl, ru⟩ := vals1 r
  cases (show u = Value.ref p from ru)
  obtain ⟨t, u, v, hr⟩ := (show ObjOk X.prog X.w H s.heap p (.rng 0 n) from I.hok p _ hp)
  refine call_list_range (a := 0) (b := (n : Int)) (c := 1) (n := n) (I.ok.hd hc) hr (small_one (by omega) (by omega) (by omega) (by omega)) (by rw [rangeSize_one]; split <;> omega) (by omega) fun h' tk acc c kp e it => ?_
  have hv : Vals ((List.range n).map fun i : Nat => V.int (i : Int)) acc.toList := by
    refine vals_of (by rw [List.length_map, List.length_range, Array.length_toList, it.1]) fun i x y h1 h2 => ?_
    rw [List.getElem?_map] at h1
    cases e' : (List.range n)[i]? with
    | none => rw [e'] at h1; cases h1
    | some k =>
      rw [e'] at h1
      cases h1
      have hk : k = i := by
        obtain ⟨hl, he⟩ := List.getElem?_eq_some_iff.mp e'
        rw [← he]; simp
      obtain ⟨t', rfl⟩ := it.2 i y (by rw [← h2, Array.getElem?_toList])
      refine ⟨t', ?_⟩
      rw [hk, show (0 : Int) + (i : Int) * 1 = (i : Int) by omega]
  refine ⟨.ref s.heap.objs.size, _, I.laid (t' := tk) (o := .lst ((List.range n).map fun i : Nat => V.int (i : Int))) kp (Nat.le_refl _) ⟨by simp; exact Nat.le_trans hn (by decide), acc.toList, c, hv, by simpa using e⟩, rfl, q _ (I.hok.fresh (Nat.le_refl _))⟩
end L2
namespace Mc
open PySem L2 PyProof.Rows
/-! ### the table of a strip -/
def signTb (k : Nat) (rs : List Rw) : Tb := ⟨rs.map fun r => some ((r.c.getD k (0, 0)).2, (r.c.getD k (0, 0)).1), rs.map fun r => some ((r.c.getD k (0, 0)).2, (r.c.getD k (0, 0)).1)⟩
theorem signTb_D (k : Nat) (rs : List Rw) : tbD (signTb k rs) = tabD (signT k rs) (signT k rs) := by
  unfold tbD signTb signT
  rw [List.map_map]; rfl
theorem cell_ok {rs : List Rw} {sg : Nat} {r : Rw} {k : Nat} (M : Mach rs sg) (hr : r ∈ rs) (hk : k < sg) : r.c[k]? = some (r.c.getD k (0, 0)) ∧ cellGood rs.length (r.c.getD k (0, 0)) := by
  have h := M.row r hr
  have hl : k < r.c.length := by rw [h.2]; exact hk
  have e : r.c[k]? = some (r.c.getD k (0, 0)) := by rw [List.getD_eq_getElem?_getD, List.getElem?_eq_getElem hl]; rfl
  exact ⟨e, h.1.2.2 _ (List.mem_of_getElem? e)⟩
theorem signTb_good {rs : List Rw} {sg k : Nat} (M : Mach rs sg) (hk : k < sg) : (signTb k rs).good rs.length := by
  have key : ∀ x ∈ rs.map fun r => some ((r.c.getD k (0, 0)).2, (r.c.getD k (0, 0)).1), thGood rs.length x := fun x hx => by
    obtain ⟨r, hr, rfl⟩ := List.mem_map.mp hx
    obtain ⟨_, g1, g2, g3⟩ := cell_ok M hr hk
    exact ⟨g3, g1, g2⟩
  exact ⟨by unfold signTb; simp, by unfold signTb; simp, key, key⟩
theorem signTb_at {rs : List Rw} {k : Nat} {w q : Int} (h0 : 0 ≤ q) (h1 : q < (rs.length : Int)) : (signTb k rs).at w q = some (((rowAt rs q).c.getD k (0, 0)).2, ((rowAt rs q).c.getD k (0, 0)).1) := by
  unfold Tb.at signTb
  have e := rowAt_mem h0 h1
  rw [ite_self, List.getD_eq_getElem?_getD, List.getElem?_map, e]; rfl
def signsOf (rs : List Rw) (z : List Nat) : List Tb := z.map fun c => signTb (c - 97) rs
theorem signsOf_good {rs : List Rw} {sg : Nat} {z : List Nat} (M : Mach rs sg) (S : Strip sg z) : ∀ t ∈ signsOf rs z, t.good rs.length := fun t ht => by
  obtain ⟨c, hc, rfl⟩ := List.mem_map.mp ht
  have := of_decide_eq_true (S.2 c hc)
  exact signTb_good M (by omega)
noncomputable def stripT (rs : List Rw) (z : List Nat) : Tb := if z = [] then stillT rs.length else boxTab rs.length (signsOf rs z)
theorem stripT_good {rs : List Rw} {sg : Nat} {z : List Nat} (M : Mach rs sg) (S : Strip sg z) : (stripT rs z).good rs.length := by
  unfold stripT
  by_cases h : z = []
  · rw [if_pos h]; exact still_good _
  · rw [if_neg h]
    refine boxTab_good (signsOf_good M S) ?_
    unfold signsOf
    rw [List.length_map]
    exact List.length_pos_iff.mpr h
theorem Strip.take {sg : Nat} {z : List Nat} (S : Strip sg z) (i : Nat) : Strip sg (z.take i) := ⟨by rw [List.length_take]; have := S.1; omega, fun c hc => S.2 c (List.mem_of_mem_take hc)⟩
theorem stripT_snoc {rs : List Rw} {sg : Nat} {z : List Nat} {c : Nat} (M : Mach rs sg) (S : Strip sg z) (hc : isSign sg c = true) : boxTab rs.length [stripT rs z, signTb (c - 97) rs] = stripT rs (z ++ [c]) := by
  have hc' := of_decide_eq_true hc
  have gs : (signTb (c - 97) rs).good rs.length := signTb_good M (by omega)
  have e2 : stripT rs (z ++ [c]) = boxTab rs.length (signsOf rs z ++ [signTb (c - 97) rs]) := by
    unfold stripT
    rw [if_neg (by simp)]
    unfold signsOf
    rw [List.map_append]; rfl
  rw [e2]
  unfold stripT
  by_cases h : z = []
  · rw [if_pos h, still_left gs, h]
    show _ = boxTab rs.length [signTb (c - 97) rs]
    rw [one_box gs]
  · rw [if_neg h]
    have := box_comp (m := rs.length) (l1 := []) (mid := signsOf rs z) (l2 := [signTb (c - 97) rs]) (fun t ht => by simp at ht) (signsOf_good M S) (fun t ht => by rw [List.mem_singleton.mp ht]; exact gs) (by unfold signsOf; rw [List.length_map]; exact List.length_pos_iff.mpr h)
    simpa using this
/-! ### walking within a strip -/
def withSt (rs : List Rw) (z : List Nat) (s : Int × Int) : Option ((Int × Int) ⊕ (Int × Int)) :=
  let c := (rowAt rs s.2).c.getD (z.getD (s.1.toNat - 1) 97 - 97) (0, 0)
  if 0 < s.1 + c.2 ∧ s.1 + c.2 ≤ (z.length : Int) then some (.inl (s.1 + c.2, c.1)) else some (.inr ((if 0 < s.1 + c.2 then 1 else -1), c.1))
def WithV (rs : List Rw) (z : List Nat) (s : Int × Int) : Prop := 1 ≤ s.1 ∧ s.1 ≤ (z.length : Int) ∧ 0 ≤ s.2 ∧ s.2 < (rs.length : Int)
theorem WithV.valid {rs : List Rw} {z : List Nat} {s : Int × Int} (h : WithV rs z s) : Valid rs z s := ⟨by have := h.1; omega, by have := h.2.1; omega, h.2.2⟩
theorem with_cell {rs : List Rw} {sg : Nat} {z : List Nat} {s : Int × Int} (M : Mach rs sg) (S : Strip sg z) (V : WithV rs z s) : ∃ ch cc, z[s.1.toNat - 1]? = some ch ∧ isSign sg ch = true ∧ z.getD (s.1.toNat - 1) 97 = ch ∧ (rowAt rs s.2).c[ch - 97]? = some cc ∧ (rowAt rs s.2).c.getD (ch - 97) (0, 0) = cc ∧ cellGood rs.length cc := by
  have h0 : s.1 ≠ 0 := by have := V.1; omega
  have h1 : s.1 ≠ (z.length : Int) + 1 := by have := V.2.1; omega
  obtain ⟨ch, a1, a2, a3⟩ := sign_ix S V.valid h0 h1
  obtain ⟨cc, b1, b2, b3⟩ := cell_get M S V.valid h0 h1
  rw [a3] at b1 b2
  exact ⟨ch, cc, a1, a2, a3, b1, b2, b3⟩
theorem with_step {rs : List Rw} {sg : Nat} {z : List Nat} {s : Int × Int} (M : Mach rs sg) (S : Strip sg z) (V : WithV rs z s) (w : Int) :
    (∃ s', withSt rs z s = some (.inl s') ∧ WithV rs z s' ∧ ∃ w', boxSt (signsOf rs z) (s.1 - 1, w, s.2) = some (.inl (s'.1 - 1, w', s'.2))) ∨ ∃ o, withSt rs z s = some (.inr o) ∧ boxSt (signsOf rs z) (s.1 - 1, w, s.2) = some (.inr o) := by
  obtain ⟨ch, cc, a1, a2, a3, b1, b2, g1, g2, g3⟩ := with_cell M S V
  have hl : ((signsOf rs z).length : Int) = (z.length : Int) := by unfold signsOf; simp
  have hx : (s.1 - 1).toNat = s.1.toNat - 1 := by have := V.1; omega
  have hb : boxSt (signsOf rs z) (s.1 - 1, w, s.2) = if 0 ≤ s.1 - 1 + cc.2 ∧ s.1 - 1 + cc.2 < (z.length : Int) then some (.inl (s.1 - 1 + cc.2, cc.2, cc.1)) else some (.inr (cc.2, cc.1)) := by
    have e : (signsOf rs z).getD (s.1 - 1).toNat ⟨[], []⟩ = signTb (ch - 97) rs := by
      rw [List.getD_eq_getElem?_getD, hx]
      unfold signsOf
      rw [List.getElem?_map, a1]; rfl
    unfold boxSt
    dsimp only
    rw [e, signTb_at V.2.2.1 V.2.2.2, b2, hl]
  have hw : withSt rs z s = if 0 < s.1 + cc.2 ∧ s.1 + cc.2 ≤ (z.length : Int) then some (.inl (s.1 + cc.2, cc.1)) else some (.inr ((if 0 < s.1 + cc.2 then 1 else -1), cc.1)) := by
    unfold withSt
    rw [a3, b2]
  by_cases hin : 0 < s.1 + cc.2 ∧ s.1 + cc.2 ≤ (z.length : Int)
  · rw [if_pos hin] at hw
    rw [if_pos (by omega)] at hb
    refine .inl ⟨_, hw, ⟨by show 1 ≤ s.1 + cc.2; omega, hin.2, g1, g2⟩, cc.2, ?_⟩
    rw [hb, show s.1 - 1 + cc.2 = s.1 + cc.2 - 1 by omega]
  · rw [if_neg hin] at hw
    rw [if_neg (by omega)] at hb
    refine .inr ⟨_, hw, ?_⟩
    rw [hb]
    have v1 := V.1
    have v2 := V.2.1
    rcases g3 with g3 | g3
    · rw [if_pos (by omega), g3]
    · rw [if_neg (by omega), g3]
theorem with_res {rs : List Rw} {sg : Nat} {z : List Nat} {s : Int × Int} (M : Mach rs sg) (S : Strip sg z) (V : WithV rs z s) (w : Int) : resOf (withSt rs z) s = resOf (boxSt (signsOf rs z)) (s.1 - 1, w, s.2) := by
  refine resOf_congr fun o => ⟨?_, ?_⟩
  · rintro ⟨n, h⟩
    refine ⟨n, ?_⟩
    induction h generalizing w with
    | out h =>
      rcases with_step M S V w with ⟨s', e, _⟩ | ⟨o', e, g⟩
      · rw [h] at e; cases e
      · rw [h] at e; cases e; exact .out g
    | go h t ih =>
      rcases with_step M S V w with ⟨s', e, V', w', g⟩ | ⟨o', e, g⟩
      · rw [h] at e; cases e; exact .go g (ih V' w')
      · rw [h] at e; cases e
  · rintro ⟨n, h⟩
    refine ⟨n, ?_⟩
    generalize hs : (s.1 - 1, w, s.2) = p at h
    induction h generalizing s w with
    | out h =>
      subst hs
      rcases with_step M S V w with ⟨s', _, _, w', e⟩ | ⟨o', g, e⟩
      · rw [h] at e; cases e
      · rw [h] at e; cases e; exact .out g
    | go h t ih =>
      subst hs
      rcases with_step M S V w with ⟨s', g, V', w', e⟩ | ⟨o', g, e⟩
      · rw [h] at e; cases e; exact .go g (ih V' w' rfl)
      · rw [h] at e; cases e
noncomputable def withR (rs : List Rw) (z : List Nat) (p q : Int) : Th := if 1 ≤ p ∧ p ≤ (z.length : Int) then resOf (withSt rs z) (p, q) else some ((if 0 < p then 1 else -1), q)
theorem within_tab {rs : List Rw} {sg : Nat} {z : List Nat} (M : Mach rs sg) (S : Strip sg z) : (stripT rs z).f = (List.range rs.length).map (fun q : Nat => withR rs z 1 (q : Int)) ∧ (stripT rs z).a = (List.range rs.length).map (fun q : Nat => withR rs z (z.length : Int) (q : Int)) := by
  unfold stripT
  by_cases h : z = []
  · rw [if_pos h]
    subst h
    refine ⟨?_, ?_⟩
    · show (List.range rs.length).map _ = _
      refine List.map_congr_left fun q hq => ?_
      unfold withR
      rw [if_neg (by simp), if_pos (by decide)]
    · show (List.range rs.length).map _ = _
      refine List.map_congr_left fun q hq => ?_
      unfold withR
      rw [if_neg (by simp), if_neg (by simp)]
  · have hl : 1 ≤ z.length := List.length_pos_iff.mpr h
    have hsl : ((signsOf rs z).length : Int) = (z.length : Int) := by unfold signsOf; simp
    rw [if_neg h]
    refine ⟨?_, ?_⟩
    · show (List.range rs.length).map _ = _
      refine List.map_congr_left fun q hq => ?_
      have hq := List.mem_range.mp hq
      unfold withR
      rw [if_pos (by omega), with_res M S ⟨by show (1 : Int) ≤ 1; decide, by show (1 : Int) ≤ _; omega, by show (0 : Int) ≤ (q : Int); omega, by show (q : Int) < _; omega⟩ 1]
      rfl
    · show (List.range rs.length).map _ = _
      refine List.map_congr_left fun q hq => ?_
      have hq := List.mem_range.mp hq
      unfold withR
      rw [if_pos (by omega), with_res M S ⟨by show (1 : Int) ≤ (z.length : Int); omega, by show (z.length : Int) ≤ _; omega, by show (0 : Int) ≤ (q : Int); omega, by show (q : Int) < _; omega⟩ (-1), hsl]
/-! ### pieces of a text -/
theorem pick_range (l : List Nat) (a : Nat) : ∀ n : Nat, a + n ≤ l.length → ((List.range n).map fun k => a + k).filterMap (fun i => l[i]?) = (l.drop a).take n
  | 0, _ => rfl
  | n + 1, h => by
    rw [List.range_succ, List.map_append, List.filterMap_append, pick_range l a n (by omega), List.take_add_one, List.getElem?_drop]
    have hl : a + n < l.length := by omega
    rw [List.getElem?_eq_getElem hl]
    show _ ++ List.filterMap (fun i => l[i]?) [a + n] = _
    rw [List.filterMap_cons, List.getElem?_eq_getElem hl]; rfl
theorem slice_mid {z : Str} {a b : Nat} (h1 : a ≤ b) (h2 : b ≤ z.cps.toList.length) : Txt.slice z (some (a : Int)) (some (b : Int)) = ⟨((z.cps.toList.drop a).take (b - a)).toArray⟩ := by
  have hl : z.length = z.cps.toList.length := by rw [Array.length_toList]; rfl
  unfold Txt.slice
  rw [StrLaws.strSliceIndices_plain h1 (by rw [hl]; exact h2)]
  have e : ((List.range (b - a)).map fun k => a + k).filterMap (fun i => z.cps[i]?) = (z.cps.toList.drop a).take (b - a) := by
    rw [← pick_range z.cps.toList a (b - a) (by omega)]
    congr 1
    funext i
    rw [Array.getElem?_toList]
  rw [e]
  by_cases hc : (1 == 1 && (((List.range (b - a)).map fun k => a + k).length == z.length)) = true
  · have hn : b - a = z.length := by
      rw [Bool.and_eq_true] at hc
      simpa using hc.2
    have ha : a = 0 := by omega
    have hb : b = z.cps.toList.length := by omega
    have e2 : (z.cps.toList.drop a).take (b - a) = z.cps.toList := by rw [ha, hb, List.drop_zero, Nat.sub_zero, List.take_of_length_le (Nat.le_refl _)]
    rw [e2]
    split
    · exact str_ext (by simp)
    · rfl
  · split
    · rename_i hc'
      exact absurd hc' hc
    · rfl
theorem slice_take {z : Str} {i : Nat} (h : i ≤ z.cps.toList.length) : Txt.slice z none (some (i : Int)) = ⟨(z.cps.toList.take i).toArray⟩ := by
  have e : Txt.slice z none (some (i : Int)) = Txt.slice z (some ((0 : Nat) : Int)) (some (i : Int)) := by unfold Txt.slice; rw [StrLaws.sliceIdx_none_lo]; rfl
  rw [e, slice_mid (Nat.zero_le _) h]; simp
theorem slice_drop {z : Str} {i : Nat} (h : i ≤ z.cps.toList.length) : Txt.slice z (some (i : Int)) none = ⟨(z.cps.toList.drop i).toArray⟩ := by
  have hl : z.length = z.cps.toList.length := by rw [Array.length_toList]; rfl
  have e : Txt.slice z (some (i : Int)) none = Txt.slice z (some (i : Int)) (some ((z.cps.toList.length : Nat) : Int)) := by unfold Txt.slice; rw [StrLaws.sliceIdx_none_hi, hl]
  rw [e, slice_mid h (Nat.le_refl _), List.take_of_length_le (by simp)]
theorem bad_app {sg : Nat} : ∀ {x y : List Nat} {c i : Nat}, (∀ d ∈ x, isSign sg d = true) → isSign sg c = false → badAt sg i (x ++ c :: y) = some (i + x.length)
  | [], y, c, i, _, hc => by
    show badAt sg i (c :: y) = _
    rw [badAt_cons, if_neg (by rw [hc]; decide)]; rfl
  | d :: x, y, c, i, hx, hc => by
    show badAt sg i (d :: (x ++ c :: y)) = _
    rw [badAt_cons, if_pos (hx d (by simp)), bad_app (fun e he => hx e (by simp [he])) hc]
    simp; omega
end Mc
namespace Mc
open PySem L2 PyProof.Rows
def top (i : Nat) : Stmt := PySem.Challenge.pw_striproam_k12_tables_by_walking.main.body.getD i (.Pass ⟨0, 0, 0, 0⟩)
structure Txt (K : PySem.W.Frag) (mg : Str → Option Value) : Prop extends Blt mg where
  signs : ∃ t, mg "SIGNS" = some (.str "abc" t)
theorem atI_int {α : Type} {xs : List α} {i : Int} {v : α} (h0 : 0 ≤ i) (h : xs[i.toNat]? = some v) : atI xs i = some v := by
  obtain ⟨j, rfl⟩ : ∃ j : Nat, i = j := ⟨i.toNat, by omega⟩
  exact atI_nat (j := j) h
theorem str_len (z : Str) : (z.length : Int) = (z.cps.toList.length : Int) := by rw [Array.length_toList]; rfl
theorem mach_row {K : PySem.W.Frag} {H : Hp} {xs : List V} {rs : List Rw} {q : Int} (h : DatVs K H xs (rs.map rowD)) (h0 : 0 ≤ q) (h1 : q < rs.length) : ∃ x, atI xs q = some x ∧ DatV K H x (rowD (rowAt rs q)) := by
  have e := rowAt_mem h0 h1
  obtain ⟨x, hx, hd⟩ := h.get' (i := q.toNat) (d := rowD (rowAt rs q)) (by rw [List.getElem?_map, e]; rfl)
  exact ⟨x, atI_int h0 hx, hd⟩
theorem cell_of {K : PySem.W.Frag} {H : Hp} {b : Addr} {cs : List (Int × Int)} {i : Nat} {c : Int × Int} (h : DatV K H (.ref b) (.tuple (cs.map cellD))) (hc : cs[i]? = some c) : ∃ xs q, SqT K H b xs ∧ xs[i]? = some (.ref q) ∧ SqT K H q [.int c.1, .int c.2] := by
  obtain ⟨b', xs, e, h1, h2⟩ := h.tup_of
  cases e
  obtain ⟨x, hx, hd⟩ := h2.get' (i := i) (d := cellD c) (by rw [List.getElem?_map, hc]; rfl)
  obtain ⟨q, ys, rfl, h3, h4⟩ := hd.tup_of
  obtain ⟨y0, t0, rfl, h5, h6⟩ := h4.cons_of
  obtain ⟨y1, t1, rfl, h7, h8⟩ := h6.cons_of
  obtain rfl := h8.nil_of
  obtain rfl := h5.int_of
  obtain rfl := h7.int_of
  exact ⟨xs, q, h1, hx, h3⟩
def spSigns (K : PySem.W.Frag) : Sp := fun vs H Q _ => ∃ (v : V) (r : Rw) (rs : List Rw), vs = [v] ∧ DatV K H v (machD (r :: rs)) ∧ Q (.int r.c.length) H
def spChecked (K : PySem.W.Frag) (C : Addr) : Sp := fun vs H Q E => ∃ (v : V) (r : Rw) (rs : List Rw) (z : Str), vs = [v, .str z] ∧ DatV K H v (machD (r :: rs)) ∧ 1 ≤ r.c.length ∧ r.c.length ≤ 3 ∧
  (∀ H', badAt r.c.length 0 z.cps.toList = none → Same H H' → Q (.str z) H') ∧
  (∀ (i : Nat) e d H', badAt r.c.length 0 z.cps.toList = some i → Same H H' → H' e = some (ExO e C (some d)) → H' d = some (.xd [("at", .int i)]) → E (.ref C) (some e) H')
section
variable {P : Program} {w : World} {K : PySem.W.Frag} {mg : Str → Option Value} {base : Heap}
theorem sc_init : FnScope ["self", "at"] ["self", "at"] (defScope (inClass (top 2) 0)) := ⟨rfl, rfl, rfl, by decide +kernel, rfl, by decide +kernel, by decide +kernel⟩
theorem ok_init {f W C : Addr} {fd : FuncData} (F : Fun K "__init__" "NoStrip.__init__" (inClass (top 2) 0) f fd) (c : SX.ExcC K W C) (n1 : PySem.W.findIn K (.ref C) "at" = some none) :
    FnOk P w K mg base CX0 1 f fd ["self", "at"] (spI C ["at"]) := by
  refine F.ok sc_init (fun vs H Q E h => ?_) (fun cdv A outer s H vs Q E hr h => ?_)
  · obtain ⟨e, xs, rfl, hl, _⟩ := h
    rw [List.length_cons, hl]; rfl
  · obtain ⟨e, xs, rfl, hl, he, q⟩ := h
    obtain ⟨x, rfl⟩ : ∃ x, xs = [x] := by
      match xs, hl with
      | [x], _ => exact ⟨x, rfl⟩
    refine ⟨_, pss_one (ps_fldX (pv 0) (pv 1) rfl), ?_⟩
    refine ⟨_, rfl, _, rfl, e, W, C, rfl, c, n1, .inl ⟨he, fun d hd hne => ?_⟩⟩
    exact q d hd hne
theorem sc_signs : FnScope ["machine"] ["machine"] (defScope (top 5)) := ⟨rfl, rfl, rfl, by decide +kernel, rfl, by decide +kernel, by decide +kernel⟩
theorem ok_signs (T : Txt K mg) (D : DefAt K mg "signs_of" (top 5) ["machine"]) : Calls P w K mg base CX0 1 "signs_of" ["machine"] (spSigns K) := by
  refine D.ok sc_signs (fun vs H Q E h => ?_) (fun f cdv A outer s H vs Q E hr h => ?_)
  · obtain ⟨v, r, rs, rfl, _⟩ := h; rfl
  · obtain ⟨v, r, rs, rfl, hd, q⟩ := h
    obtain ⟨a, xs, rfl, h1, h2⟩ := hd.tup_of
    obtain ⟨x, xt, rfl, h3, h4⟩ := h2.cons_of
    obtain ⟨b, ys, rfl, h5, h6⟩ := h3.tup_of
    obtain ⟨y0, yt, rfl, _, h7⟩ := h6.cons_of
    obtain ⟨y1, yt, rfl, h8, h9⟩ := h7.cons_of
    obtain ⟨c, zs, rfl, h10, h11⟩ := h8.tup_of
    refine ⟨_, (pss_one (ps_ret (pe_callB call_len_seq rfl T.b_len PySem.boot_len (pa_cons (pe_ix ix_seq (pe_ix ix_tup (pv 0) pe_int (fun _ _ => rfl)) pe_int (fun _ _ => rfl)) pa_nil)))), ?_⟩
    refine ⟨_, rfl, a, _, 0, _, rfl, rfl, h1, atI_nat (j := 0) rfl, rIx_seq (.inr h5) (atI_nat (j := 1) rfl) ⟨c, zs, rfl, .inr h10, ?_⟩⟩
    rw [h11.length, List.length_map]
    exact q
theorem sc_checked : FnScope ["machine", "strip", "known", "at", "sign"] ["machine", "strip"] (defScope (top 6)) := ⟨rfl, rfl, rfl, by decide +kernel, rfl, by decide +kernel, by decide +kernel⟩
theorem ok_checked {W C : Addr} (T : Txt K mg) (D : DefAt K mg "checked" (top 6) ["machine", "strip"]) (C1 : Calls P w K mg base CX0 1 "signs_of" ["machine"] (spSigns K)) (er : ErrAt P w K mg base "NoStrip" ["at"] W C) :
    Calls P w K mg base (CXe P w) 3 "checked" ["machine", "strip"] (spChecked K C) := by
  obtain ⟨tG, mG⟩ := T.signs
  refine D.okX sc_checked (fun vs H Q E h => ?_) (fun f cdv A outer s H vs Q E hr h => ?_)
  · obtain ⟨v, r, rs, z, rfl, _⟩ := h; rfl
  · obtain ⟨v, r, rs, z, rfl, hd, hn1, hn3, qT, qE⟩ := h
    have nd := sc_checked.nd
    refine ⟨_, (pss_cons (ps_set (i := 2) nd rfl (Or.inl rfl) (pe_slice sl_str (pe_glob (v := .str "abc") rfl mG ⟨_, rfl⟩) po_none (po_some (pe_fn C1 (hr.mono (by decide)) rfl pass0 (pa_cons (pv 0) pa_nil)))))
      (pss_cons (ps_for (own_fly ⟨rfl, rfl⟩) rfl (pi_enumS rfl T.b_enumerate (pa_cons (pv 1) pa_nil)) (pg_tup rfl (pgs_cons (pg_name (i := 3) nd rfl (Or.inl rfl)) (pgs_cons (pg_name (i := 4) nd rfl (Or.inl rfl)) pgs_nil)))
      (pss_one (ps_if (pt_cmpR op_notin_str (pv 4) (pv 2) (by with_unfolding_all rfl)) (pss_one (ps_raiseX rfl er rfl (hr.mono (by decide)) (pa_cons (pv 3) pa_nil))) pss_nil)))
      (pss_one (ps_ret (pv 1))))), ?_⟩
    refine ⟨_, rfl, v, r, rs, rfl, hd, _, rfl, _, rfl, by decide +kernel, ?_⟩
    refine ⟨_, rfl, z, rfl, ?_⟩
    refine for_enumS (z := z) (fun i σ H' => Same H H' ∧ (∃ u3 u4, σ = [some v, some (.str z), some (.str (Txt.slice "abc" none (some (r.c.length : Int)))), u3, u4]) ∧ badAt r.c.length 0 z.cps.toList = badAt r.c.length i (z.cps.toList.drop i)) ⟨Same.refl H, ⟨_, _, rfl⟩, rfl⟩ (fun i c σ H' p hc w hp => ?_) (fun σ H' w => ?_)
    · obtain ⟨sm, ⟨u3, u4, rfl⟩, hb⟩ := w
      refine ⟨p, _, rfl, .inl (.inl upd_same), rfl, _, _, rfl, _, _, rfl, rfl, ?_⟩
      refine ⟨_, rfl, _, rfl, _, _, rfl, rfl, _, rfl, ?_⟩
      rw [in_known hn1 hn3]
      have hc' : z.cps.toList[i]? = some c := by rw [← hc, Array.getElem?_toList]
      have hdr : z.cps.toList.drop i = c :: z.cps.toList.drop (i + 1) := by
        obtain ⟨hlt, he⟩ := List.getElem?_eq_some_iff.mp hc'
        rw [List.drop_eq_getElem_cons hlt, he]
      rw [hdr, badAt_cons] at hb
      have sm2 := sm.trans (Same.upd (o := .tup [.int i, .str ⟨#[c]⟩]) hp)
      cases hs : isSign r.c.length c with
      | true =>
        rw [hs, if_pos rfl] at hb
        exact iteF ⟨sm2, ⟨_, _, rfl⟩, hb⟩
      | false =>
        rw [hs, if_neg (by decide)] at hb
        refine iteT ⟨_, rfl, raise_read rfl (by show 1 ≤ 1000; decide) fun e d he hd' hne => ?_⟩
        exact qE i e d _ hb (sm2.trans ((Same.upd he).trans (Same.upd (by rw [upd_ne hne]; exact hd')))) (by rw [upd_ne (Ne.symm hne), upd_same]) (by rw [upd_same]; rfl)
    · obtain ⟨sm, ⟨u3, u4, rfl⟩, hb⟩ := w
      rw [List.drop_of_length_le (by simp)] at hb
      exact ⟨_, rfl, qT H' hb sm⟩
end
def spStill (K : PySem.W.Frag) : Sp := fun vs H Q _ => ∃ n : Nat, vs = [.int n] ∧ n ≤ 1000 ∧ ∀ v H', Same H H' → DatV K H' v (tabD (stillF n) (stillA n)) → Q v H'
section
variable {P : Program} {w : World} {K : PySem.W.Frag} {mg : Str → Option Value} {base : Heap}
theorem sc_still : FnScope ["rooms", "fore", "aft"] ["rooms"] (defScope (top 8)) := ⟨rfl, rfl, rfl, by decide +kernel, rfl, by decide +kernel, by decide +kernel⟩
theorem ok_still (T : Txt K mg) (D : DefAt K mg "still" (top 8) ["rooms"]) : Calls P w K mg base CX0 1 "still" ["rooms"] (spStill K) := by
  refine D.ok sc_still (fun vs H Q E h => ?_) (fun f cdv A outer s H vs Q E hr h => ?_)
  · obtain ⟨n, rfl, _⟩ := h; rfl
  · obtain ⟨n, rfl, hn, q⟩ := h
    have nd := sc_still.nd
    refine ⟨_, (pss_cons (ps_set (i := 1) nd rfl (Or.inl rfl) (pe_callTy call_tuple_of rfl T.b_tuple PyProof.Rows.boot_tuple (pa_cons (pe_comp (N := ["room"]) (js := [none]) rfl (.own .nil) (by rfl) (pi_range1 rfl T.b_range (pa_cons (pv 0) pa_nil))) pa_nil)))
      (pss_cons (ps_set (i := 2) nd rfl (Or.inl rfl) (pe_callTy call_tuple_of rfl T.b_tuple PyProof.Rows.boot_tuple (pa_cons (pe_comp (N := ["room"]) (js := [none]) rfl (.own .nil) (by rfl) (pi_range1 rfl T.b_range (pa_cons (pv 0) pa_nil))) pa_nil)))
      (pss_one (ps_ret (pe_tup (pa_cons (pv 1) (pa_cons (pv 2) pa_nil))))))), ?_⟩
    have hz : n ≤ sizeLine := Nat.le_trans hn (by decide)
    refine ⟨_, rfl, (n : Int), rfl, by omega, by omega, ?_⟩
    refine comp_range (n := n) (fun i ys H' => Same H H' ∧ ys.length = i ∧ DatVs K H' ys (stillF i)) hz ⟨Same.refl H, rfl, .nil⟩ (fun i ys H' hi w => Nat.le_of_eq w.2.1) (fun i ys H' hi w => ?_) (fun ys H' w p hp => ?_)
    · obtain ⟨sm, hl, hd⟩ := w
      refine fun cl C s H0 fp => ⟨_, _, _, (pg_name (i := 0) (show (["room"] : List Str).Nodup by decide +kernel) rfl (Or.inl rfl)), pif_nil, (pe_tup (pa_cons pe_int (pa_cons (pv 0) pa_nil))), fun σ0 ks => ?_⟩
      obtain ⟨u, ρ, rfl, ks1⟩ := KeepsV.own_of (τ := []) ks
      obtain rfl := ks1.nil_of
      refine ⟨.own .nil, _, rfl, by show 2 ≤ sizeLine; decide, fun t ht => ?_⟩
      refine ⟨sm.trans (Same.upd ht), by rw [List.length_append, hl]; rfl, ?_⟩
      unfold stillF
      rw [List.range_succ, List.map_append]
      refine DatVs.append (hd.same (Same.upd ht)) (.cons (.tup (.inl (.inl upd_same)) (.cons (.int _) (.cons ?_ .nil))) .nil)
      rw [Int.zero_add]
      exact .int _
    · obtain ⟨sm, hl, hd⟩ := w
      refine ⟨p, ys, rfl, .inl ⟨.inl (.inl upd_same), fun t ht => ?_⟩⟩
      have g1 := (Same.upd (o := .lst ys) hp).trans (Same.upd (o := .tup ys) ht)
      have ht' := upd_at (o := .tup ys) ht
      generalize hG : upd (upd H' p (.lst ys)) t (.tup ys) = G at g1 ht' ⊢
      have hd1 := hd.same g1
      have sm1 := sm.trans g1
      refine ⟨_, rfl, (n : Int), rfl, by omega, by omega, ?_⟩
      refine comp_range (n := n) (fun i zs H' => Same G H' ∧ zs.length = i ∧ DatVs K H' zs (stillA i)) hz ⟨Same.refl G, rfl, .nil⟩ (fun i ys H' hi w => Nat.le_of_eq w.2.1) (fun i zs H' hi w => ?_) (fun zs H' w p2 hp2 => ?_)
      · obtain ⟨sm, hl, hd⟩ := w
        refine fun cl C s H0 fp => ⟨_, _, _, (pg_name (i := 0) (show (["room"] : List Str).Nodup by decide +kernel) rfl (Or.inl rfl)), pif_nil, (pe_tup (pa_cons (pe_un un_neg pe_int) (pa_cons (pv 0) pa_nil))), fun σ0 ks => ?_⟩
        obtain ⟨u, ρ, rfl, ks1⟩ := KeepsV.own_of (τ := []) ks
        obtain rfl := ks1.nil_of
        refine ⟨.own .nil, _, rfl, _, rfl, by show 2 ≤ sizeLine; decide, fun t ht => ?_⟩
        refine ⟨sm.trans (Same.upd ht), by rw [List.length_append, hl]; rfl, ?_⟩
        unfold stillA
        rw [List.range_succ, List.map_append]
        refine DatVs.append (hd.same (Same.upd ht)) (.cons (.tup (.inl (.inl upd_same)) (.cons (.int _) (.cons ?_ .nil))) .nil)
        rw [Int.zero_add]
        exact .int _
      · obtain ⟨sm2, hl2, hd2⟩ := w
        refine ⟨p2, zs, rfl, .inl ⟨.inl (.inl upd_same), fun t2 ht2 => ?_⟩⟩
        have g2 := (Same.upd (o := .lst zs) hp2).trans (Same.upd (o := .tup zs) ht2)
        have ht2' := upd_at (o := .tup zs) ht2
        generalize hG2 : upd (upd H' p2 (.lst zs)) t2 (.tup zs) = G2 at g2 ht2' ⊢
        refine ⟨_, rfl, _, rfl, by show 2 ≤ sizeLine; decide, fun t3 ht3 => ?_⟩
        have g3 := Same.upd (o := .tup [.ref t, .ref t2]) ht3
        have g4 := sm2.trans (g2.trans g3)
        exact q _ _ (sm1.trans g4) (.tup (.inl (.inl upd_same)) (.cons (.tup (.inl (.inl (g4 _ _ ht'))) (hd1.same g4)) (.cons (.tup (.inl (.inl (g3 _ _ ht2'))) (hd2.same (g2.trans g3))) .nil)))
end
def spSignT (K : PySem.W.Frag) (C : Addr) : Sp := fun vs H Q E => ∃ (v : V) (r : Rw) (rs : List Rw) (c : Nat), vs = [v, .str ⟨#[c]⟩] ∧ DatV K H v (machD (r :: rs)) ∧ (∀ x ∈ r :: rs, x.c.length = r.c.length) ∧ 1 ≤ r.c.length ∧ r.c.length ≤ 3 ∧ (r :: rs).length ≤ 1000 ∧
  (∀ u H', isSign r.c.length c = true → Same H H' → DatV K H' u (tabD (signT (c - 97) (r :: rs)) (signT (c - 97) (r :: rs))) → Q u H') ∧
  (∀ e d H', isSign r.c.length c = false → Same H H' → H' e = some (ExO e C (some d)) → H' d = some (.xd [("at", .int 0)]) → E (.ref C) (some e) H')
section
variable {P : Program} {w : World} {K : PySem.W.Frag} {mg : Str → Option Value} {base : Heap}
theorem sc_signt : FnScope ["machine", "sign", "number", "cells", "things"] ["machine", "sign"] (defScope (top 9)) := ⟨rfl, rfl, rfl, by decide +kernel, rfl, by decide +kernel, by decide +kernel⟩
theorem ok_signt {C : Addr} (T : Txt K mg) (D : DefAt K mg "sign_table" (top 9) ["machine", "sign"]) (C1 : Calls P w K mg base (CXe P w) 3 "checked" ["machine", "strip"] (spChecked K C)) :
    Calls P w K mg base (CXe P w) 4 "sign_table" ["machine", "sign"] (spSignT K C) := by
  obtain ⟨tG, mG⟩ := T.signs
  refine D.okX sc_signt (fun vs H Q E h => ?_) (fun f cdv A outer s H vs Q E hr h => ?_)
  · obtain ⟨v, r, rs, c, rfl, _⟩ := h; rfl
  · obtain ⟨v, r, rs, c, rfl, hd, hall, hn1, hn3, hz, qT, qE⟩ := h
    have nd := sc_signt.nd
    refine ⟨_, (pss_cons (ps_expr (pe_fn C1 (hr.mono (by decide)) rfl (passX fun _ _ _ h => h) (pa_cons (pv 0) (pa_cons (pv 1) pa_nil))))
      (pss_cons (ps_set (i := 2) nd rfl (Or.inr rfl) (pe_bm PySem.F.plainAttrs_str PySem.F.slot_str_index PySem.F.type_str_index mt_index (pe_glob (v := .str "abc") rfl mG ⟨_, rfl⟩) (pa_cons (pv 1) pa_nil)))
      (pss_cons (ps_setComp (i := 3) nd rfl (Or.inl rfl) (by rfl) (N := ["row", "number"]) (js := [none, some 2]) rfl (.own (.cap rfl (.inl rfl) (.inl rfl) .nil)) (by rfl) (pi_tup (pv 0)))
      (pss_cons (ps_set (i := 4) nd rfl (Or.inl rfl) (pe_callTy call_tuple_of rfl T.b_tuple PyProof.Rows.boot_tuple (pa_cons (pe_comp (N := ["cell"]) (js := [none]) rfl (.own .nil) (by rfl) (pi_list (pv 3))) pa_nil)))
      (pss_one (ps_ret (pe_tup (pa_cons (pv 4) (pa_cons (pv 4) pa_nil))))))))), ?_⟩
    have hb0 : badAt r.c.length 0 (⟨#[c]⟩ : Str).cps.toList = if isSign r.c.length c = true then none else some 0 := rfl
    refine ⟨_, rfl, _, rfl, v, r, rs, _, rfl, hd, hn1, hn3, fun H1 hb sm => ?_, fun i e d H1 hb sm he hd' => ?_⟩
    rotate_left
    · rw [hb0] at hb
      cases hs : isSign r.c.length c with
      | true => rw [hs, if_pos rfl] at hb; cases hb
      | false =>
        rw [hs, if_neg (by decide)] at hb
        cases hb
        exact qE e d H1 hs sm he hd'
    · rw [hb0] at hb
      have hs : isSign r.c.length c = true := by
        cases hs : isSign r.c.length c with
        | true => rfl
        | false => rw [hs, if_neg (by decide)] at hb; cases hb
      obtain ⟨rr, hix⟩ := index_abc (sign_mono hn3 hs)
      have hck := of_decide_eq_true hs
      refine ⟨rfl, _, rfl, _, _, _, _, rfl, rfl, hix, ?_⟩
      obtain ⟨a, xs, rfl, hm1, hm2⟩ := (hd.same sm).tup_of
      have hxl : xs.length = (r :: rs).length := by rw [hm2.length, List.length_map]
      have hz' : xs.length ≤ sizeLine := by rw [hxl]; exact Nat.le_trans hz (by decide)
      refine ⟨_, rfl, a, rfl, ⟨xs, hm1⟩, ?_⟩
      refine comp_tup (K := K) (xs := xs) (fun i ys H' => Same H1 H' ∧ ys.length = i ∧ CellsAt K H' ys (((r :: rs).take i).map fun x => x.c.getD (c - 97) (0, 0))) hz' ⟨Same.refl H1, rfl, .nil⟩ (fun i ys H' hi w => ⟨Nat.le_of_eq w.2.1, hm1.same w.1⟩) (fun i x ys H' hx w => ?_) (fun ys H' w p hp => ?_)
      · obtain ⟨sm2, hl, hcs⟩ := w
        obtain ⟨dr, hdr, hrow⟩ := hm2.get hx
        rw [List.getElem?_map] at hdr
        obtain ⟨rw_, hrw, rfl⟩ : ∃ rw_, (r :: rs)[i]? = some rw_ ∧ rowD rw_ = dr := by
          cases e : (r :: rs)[i]? with
          | none => rw [e] at hdr; cases hdr
          | some y => rw [e] at hdr; exact ⟨y, rfl, Option.some.inj hdr⟩
        obtain ⟨t, b, cs, rfl, ht, hb2, hc⟩ := rowD_of (hrow.same sm2)
        have hlen : rw_.c.length = r.c.length := hall rw_ (List.mem_of_getElem? hrw)
        refine fun cl C s H0 fp => ⟨_, _, _, (pg_name (i := 0) (show (["row", "number"] : List Str).Nodup by decide +kernel) rfl (Or.inl rfl)), pif_nil, (pe_ix ix_seq (pe_ix ix_tup (pv 0) pe_int (fun _ _ => rfl)) (pv 1) (fun _ _ => rfl)), fun σ0 ks => ?_⟩
        obtain ⟨u, ρ, rfl, ks1⟩ := KeepsV.own_of (τ := [some (.int ((c - 97 : Nat) : Int))]) ks
        obtain ⟨ρ', rfl, ks2⟩ := KeepsV.cap_of ks1
        obtain rfl := ks2.nil_of
        have hk : c - 97 < rw_.c.length := by omega
        have hcl := hc.len
        have hcx : ∃ y, cs[c - 97]? = some y := ⟨cs[c - 97]'(by omega), by simp⟩
        obtain ⟨y, hy⟩ := hcx
        obtain ⟨q', zz, hzz, rfl, hsq⟩ := hc.get hy
        refine ⟨.own (.cap .nil), _, rfl, t, _, 1, _, rfl, rfl, ht, atI_nat (j := 1) rfl, _, rfl, rIx_seq (.inr hb2) (atI_nat (j := c - 97) hy) ?_⟩
        refine ⟨sm2, by rw [List.length_append, hl]; rfl, ?_⟩
        rw [List.take_add_one, hrw, List.map_append]
        refine CellsAt.append hcs ?_
        have eg : rw_.c.getD (c - 97) (0, 0) = zz := by rw [List.getD_eq_getElem?_getD, hzz]; rfl
        show CellsAt K H' [.ref q'] [rw_.c.getD (c - 97) (0, 0)]
        rw [eg]
        exact .cons hsq .nil
      · obtain ⟨sm2, hl, hcs⟩ := w
        rw [hxl, List.take_of_length_le (Nat.le_refl _)] at hcs
        have g1 := Same.upd (o := .lst ys) hp
        have hp' := upd_at (o := .lst ys) hp
        generalize upd H' p (.lst ys) = G at g1 hp' ⊢
        have hcs := hcs.same g1
        have smG := sm.trans (sm2.trans g1)
        have hyl : ys.length = (r :: rs).length := by rw [hl, hxl]
        refine ⟨_, rfl, p, rfl, ⟨ys, .inl (.inl hp')⟩, ?_⟩
        refine comp_list (K := K) (xs := ys) (fun i zs H' => Same G H' ∧ zs.length = i ∧ DatVs K H' zs ((signT (c - 97) (r :: rs)).take i)) (by rw [hyl]; exact Nat.le_trans hz (by decide)) ⟨Same.refl G, rfl, .nil⟩ (fun i zs H' hi w => ⟨Nat.le_of_eq w.2.1, .inl (.inl (w.1 _ _ hp'))⟩) (fun i x zs H' hx w => ?_) (fun zs H' w p2 hp2 => ?_)
        · obtain ⟨sm3, hl3, hd3⟩ := w
          obtain ⟨q', zz, hzz, rfl, hsq⟩ := hcs.get hx
          have hsq := hsq.same sm3
          refine fun cl C s H0 fp => ⟨_, _, _, (pg_name (i := 0) (show (["cell"] : List Str).Nodup by decide +kernel) rfl (Or.inl rfl)), pif_nil, (pe_tup (pa_cons (pe_ix ix_seq (pv 0) pe_int (fun _ _ => rfl)) (pa_cons (pe_ix ix_seq (pv 0) pe_int (fun _ _ => rfl)) pa_nil))), fun σ0 ks => ?_⟩
          obtain ⟨u, ρ, rfl, ks1⟩ := KeepsV.own_of (τ := []) ks
          obtain rfl := ks1.nil_of
          refine ⟨.own .nil, _, rfl, rIx_seq hsq (atI_nat (j := 1) rfl) ⟨_, rfl, rIx_seq hsq (atI_nat (j := 0) rfl) ⟨by show 2 ≤ sizeLine; decide, fun t ht => ?_⟩⟩⟩
          refine ⟨sm3.trans (Same.upd ht), by rw [List.length_append, hl3]; rfl, ?_⟩
          have hzz' : (signT (c - 97) (r :: rs))[i]? = some (thingD zz.2 zz.1) := by
            unfold signT
            rw [List.getElem?_map] at hzz ⊢
            cases e : (r :: rs)[i]? with
            | none => rw [e] at hzz; cases hzz
            | some y => rw [e] at hzz; cases hzz; rfl
          rw [List.take_add_one, hzz']
          exact DatVs.append (hd3.same (Same.upd ht)) (.cons (.tup (.inl (.inl upd_same)) (.cons (.int _) (.cons (.int _) .nil))) .nil)
        · obtain ⟨sm3, hl3, hd3⟩ := w
          have e5 : (signT (c - 97) (r :: rs)).take ys.length = signT (c - 97) (r :: rs) := List.take_of_length_le (by unfold signT; rw [List.length_map, hyl]; exact Nat.le_refl _)
          rw [e5] at hd3
          refine ⟨p2, zs, rfl, .inl ⟨.inl (.inl upd_same), fun t ht => ?_⟩⟩
          have g2 := (Same.upd (o := .lst zs) hp2).trans (Same.upd (o := .tup zs) ht)
          have ht' := upd_at (o := .tup zs) ht
          generalize upd (upd H' p2 (.lst zs)) t (.tup zs) = G2 at g2 ht' ⊢
          refine ⟨_, rfl, _, rfl, by show 2 ≤ sizeLine; decide, fun t3 ht3 => ?_⟩
          have g3 := Same.upd (o := .tup [.ref t, .ref t]) ht3
          have one := DatV.tup (K := K) (.inl (.inl (g3 _ _ ht'))) (hd3.same (g2.trans g3))
          exact qT _ _ hs (smG.trans (sm3.trans (g2.trans g3))) (.tup (.inl (.inl upd_same)) (.cons one (.cons one .nil)))
end
end Mc
namespace Mc
open PySem L2 PyProof.Rows
/-! ### behind -/
def spGone (K : PySem.W.Frag) : Sp := fun vs H Q _ => ∃ (v1 v2 vt : V) (a b : Tb) (m : Nat) (th : Th) (w : Int), vs = [v1, v2, vt, .int w] ∧ DatV K H v1 (tbD a) ∧ DatV K H v2 (tbD b) ∧ a.good m ∧ b.good m ∧ m ≤ 1000 ∧ DatV K H vt (thD th) ∧ thGood m th ∧ (w = 1 ∨ w = -1) ∧ ∀ u H', Same H H' → DatV K H' u (thD (goneR a b th w)) → Q u H'
def spBehind (K : PySem.W.Frag) : Sp := fun vs H Q _ => ∃ (v1 v2 : V) (a b : Tb) (m : Nat), vs = [v1, v2] ∧ DatV K H v1 (tbD a) ∧ DatV K H v2 (tbD b) ∧ a.good m ∧ b.good m ∧ m ≤ 1000 ∧ ∀ u H', Same H H' → DatV K H' u (tbD (boxTab m [a, b])) → Q u H'
theorem th_none {K : PySem.W.Frag} {H : Hp} {v : V} (h : DatV K H v (thD none)) : v = .non := by cases h; rfl
theorem th_some {K : PySem.W.Frag} {H : Hp} {v : V} {o : Int × Int} (h : DatV K H v (thD (some o))) : ∃ a, v = .ref a ∧ SqT K H a [.int o.1, .int o.2] := by
  obtain ⟨a, xs, rfl, h1, h2⟩ := DatV.tup_of (ds := [.int o.1, .int o.2]) h
  obtain ⟨x0, t0, rfl, h3, h4⟩ := h2.cons_of
  obtain ⟨x1, t1, rfl, h5, h6⟩ := h4.cons_of
  obtain rfl := h6.nil_of
  obtain rfl := h3.int_of
  obtain rfl := h5.int_of
  exact ⟨a, rfl, h1⟩
/-- a side of a table -/
theorem tb_side {K : PySem.W.Frag} {H : Hp} {v : V} {t : Tb} (h : DatV K H v (tbD t)) : ∃ a pf pa xf xa, v = .ref a ∧ SqT K H a [.ref pf, .ref pa] ∧ SqT K H pf xf ∧ SqT K H pa xa ∧ DatVs K H xf (t.f.map thD) ∧ DatVs K H xa (t.a.map thD) := by
  obtain ⟨a, xs, rfl, h1, h2⟩ := h.tup_of
  obtain ⟨x0, t0, rfl, h3, h4⟩ := h2.cons_of
  obtain ⟨x1, t1, rfl, h5, h6⟩ := h4.cons_of
  obtain rfl := h6.nil_of
  obtain ⟨pf, xf, rfl, h7, h8⟩ := h3.tup_of
  obtain ⟨pa, xa, rfl, h9, h10⟩ := h5.tup_of
  exact ⟨a, pf, pa, xf, xa, rfl, h1, h7, h9, h8, h10⟩
theorem side_at {K : PySem.W.Frag} {H : Hp} {xs : List V} {l : List Th} {m : Nat} {q : Int} (h : DatVs K H xs (l.map thD)) (hl : l.length = m) (h0 : 0 ≤ q) (h1 : q < (m : Int)) : ∃ x, atI xs q = some x ∧ DatV K H x (thD (l.getD q.toNat none)) := by
  have hq : q.toNat < l.length := by omega
  have e : l[q.toNat]? = some (l.getD q.toNat none) := by rw [List.getD_eq_getElem?_getD, List.getElem?_eq_getElem hq]; rfl
  obtain ⟨x, hx, hd⟩ := h.get' (i := q.toNat) (d := thD (l.getD q.toNat none)) (by rw [List.getElem?_map, e]; rfl)
  exact ⟨x, atI_int h0 hx, hd⟩
section
variable {P : Program} {w : World} {K : PySem.W.Frag} {mg : Str → Option Value} {base : Heap}
theorem sc_gone : FnScope ["one", "other", "thing", "inward", "been"] ["one", "other", "thing", "inward"] (defScope (top 10)) := ⟨rfl, rfl, rfl, by decide +kernel, rfl, by decide +kernel, by decide +kernel⟩
theorem ok_gone (T : Txt K mg) (D : DefAt K mg "gone_out" (top 10) ["one", "other", "thing", "inward"]) : Calls P w K mg base CX0 1 "gone_out" ["one", "other", "thing", "inward"] (spGone K) := by
  refine D.ok sc_gone (fun vs H Q E h => ?_) (fun f cdv A outer s H vs Q E hr h => ?_)
  · obtain ⟨v1, v2, vt, a, b, m, th, w, rfl, _⟩ := h; rfl
  · obtain ⟨v1, v2, vt, a, b, m, th, wi, rfl, hv1, hv2, ga, gb, hm, hth, gth, hw, q⟩ := h
    have nd := sc_gone.nd
    have hu := hu1 hr
    refine ⟨_, (pss_cons (ps_set (i := 4) nd rfl (Or.inl rfl) pe_xnew)
      (pss_cons (ps_while PassesOwn.never (PW.pt (pw_and (pt_cmpR op_notN (pv 2) pe_non (nomark _)) (pw_and1 (pt_cmpR op_eq (pe_ix ix_tup (pv 2) pe_int (fun _ _ => rfl)) (pv 3) (nomark _)))))
      (pss_cons (ps_if (pt_cmpR (op_xin hu) (pv 2) (pv 4) (by with_unfolding_all rfl)) (pss_one (ps_ret pe_non)) pss_nil)
      (pss_cons (ps_xput hu (pv 4) (pv 2) pe_bl rfl)
      (pss_cons (ps_set (i := 2) nd rfl (Or.inl rfl) (pe_ifExp (pt_cmpR op_eq (pv 3) pe_int (nomark _)) (pe_ix ix_seq (pe_ix ix_tup (pv 1) pe_int (fun _ _ => rfl)) (pe_ix ix_tup (pv 2) pe_int (fun _ _ => rfl)) (fun _ _ => rfl)) (pe_ix ix_seq (pe_ix ix_tup (pv 0) pe_int (fun _ _ => rfl)) (pe_ix ix_tup (pv 2) pe_int (fun _ _ => rfl)) (fun _ _ => rfl))))
      (pss_one (ps_set (i := 3) nd rfl (Or.inl rfl) (pe_un un_neg (pv 3))))))))
      (pss_one (ps_ret (pv 2))))), ?_⟩
    refine fun d hd => ?_
    -- going on from a state, or come to the end
    have run0 : (∃ s0 q', th = some (wi, q') ∧ goneR a b th wi = resOf (goneSt a b) s0 ∧ Und2 (goneSt a b) s0 [] (wi, q')) ∨ (goneR a b th wi = th ∧ ∀ o, th = some o → o.1 ≠ wi) := by
      cases hth' : th with
      | none => exact .inr ⟨rfl, fun o ho => by cases ho⟩
      | some o =>
        obtain ⟨d', q'⟩ := o
        by_cases hd' : d' = wi
        · subst hd'
          refine .inl ⟨(d', q'), q', rfl, ?_, Und2.start⟩
          show (if d' = d' then resOf (goneSt a b) (d', q') else some (d', q')) = _
          rw [if_pos rfl]
        · refine .inr ⟨?_, fun o ho => by cases ho; exact hd'⟩
          show (if d' = wi then resOf (goneSt a b) (d', q') else some (d', q')) = _
          rw [if_neg hd']
    generalize hR : goneR a b th wi = R at run0 q
    refine ⟨fun n σ H' => ∃ (vt : V) (th : Th) (wi : Int) (ks : List (List Key × Addr)) (ps : List (Int × Int)), σ = [some v1, some v2, some vt, some (.int wi), some (.ref d)] ∧ Same H H' ∧ H' d = some (Been P w d ks) ∧ KeysAt K H' ks ∧ DatV K H' vt (thD th) ∧ thGood m th ∧ (wi = 1 ∨ wi = -1) ∧ ks.map (·.1) = ps.map stdK ∧ (∀ s ∈ ps, PairV m s) ∧ ps.length + n = 2 * m + 1 ∧
        ((∃ s0 q', th = some (wi, q') ∧ R = resOf (goneSt a b) s0 ∧ Und2 (goneSt a b) s0 ps (wi, q')) ∨ (R = th ∧ ∀ o, th = some o → o.1 ≠ wi)), ⟨2 * m + 1, vt, th, wi, [], [], rfl, Same.upd hd, upd_same, (fun x hx => by simp at hx), hth.same (Same.upd hd), gth, hw, rfl, (fun s hs => by simp at hs), by simp, run0⟩, ?_⟩
    clear run0 hth gth hw hR
    rintro n σ H' ⟨vt, th, wi, ks, ps, rfl, sm, hbn, hky, hth, gth, hw, hks, hps, hn, hrun⟩
    cases hte : th with
    | none =>
      rw [hte] at hth hrun
      obtain rfl := th_none hth
      refine ⟨_, rfl, rfl, _, rfl, iteF (iteF ?_)⟩
      rcases hrun with ⟨_, _, z, _⟩ | ⟨e, _⟩
      · cases z
      · refine ⟨_, rfl, q _ H' sm ?_⟩
        rw [e]; exact .non
    | some o =>
      rw [hte] at hth hrun gth
      obtain ⟨o1, o2⟩ := o
      obtain ⟨at_, rfl, hat⟩ := th_some hth
      refine ⟨_, rfl, rfl, _, rfl, iteT ⟨_, rfl, at_, _, _, _, rfl, rfl, hat, atI_nat (j := 0) rfl, _, rfl, rfl, _, rfl, ?_⟩⟩
      by_cases hd1 : o1 = wi
      · subst hd1
        rw [decide_eq_true rfl]
        refine iteT ?_
        rcases hrun with ⟨s0, q', z, eR, U⟩ | ⟨_, z⟩
        · cases z
          have V0 : PairV m (o1, o2) := gth
          have hin0 : hasK ks (stdK (o1, o2)) = decide ((o1, o2) ∈ ps) := has_std hks
          have e1 : (if false = true then !hasK ks (stdK (o1, o2)) else hasK ks (stdK (o1, o2))) = decide ((o1, o2) ∈ ps) := by rw [if_neg (by decide), hin0]
          by_cases hin : (o1, o2) ∈ ps
          · refine ⟨fun _ _ => False, fun _ _ z => z.elim, ?_⟩
            refine ⟨_, rfl, _, rfl, d, at_, stdK (o1, o2), ks, rfl, rfl, hbn, hky, hat, _, rfl, ?_⟩
            rw [e1, decide_eq_true hin]
            refine iteT (q _ H' sm ?_)
            rw [eR, U.met hin]; exact .non
          · have hnd : (ps ++ [(o1, o2)]).Nodup := by
              rw [List.nodup_append]
              exact ⟨U.nd, by simp, fun x hx y hy e => by rw [List.mem_singleton.mp hy] at e; exact hin (e ▸ hx)⟩
            have hps' : ∀ s ∈ ps ++ [(o1, o2)], PairV m s := fun s hs => by
              rcases List.mem_append.mp hs with y | y
              · exact hps s y
              · rw [List.mem_singleton.mp y]; exact V0
            have hfew := pair_few hnd hps'
            rw [List.length_append] at hfew
            have hfew : ps.length + 1 ≤ 2 * m := hfew
            obtain ⟨n', rfl⟩ : ∃ n', n = n' + 1 := ⟨n - 1, by omega⟩
            refine ⟨_, fun σ' H'' z => ⟨n', Nat.lt_succ_self _, z⟩, ?_⟩
            refine ⟨_, rfl, _, rfl, d, at_, stdK (o1, o2), ks, rfl, rfl, hbn, hky, hat, _, rfl, ?_⟩
            rw [e1, decide_eq_false hin]
            refine iteF ?_
            have hkl : ks.length = ps.length := by have := congrArg List.length hks; simpa using this
            refine ⟨_, rfl, _, rfl, d, at_, stdK (o1, o2), ks, rfl, rfl, rfl, hbn, hky, hat, by rw [hin0, decide_eq_false hin], by rw [hkl]; exact Nat.le_trans (show ps.length ≤ 2000 by omega) (by decide), ?_⟩
            have hndH : H d = none := hd
            have sm1 : Same H (upd H' d (Been P w d (ks ++ [(stdK (o1, o2), at_)]))) := sm.updN hndH
            have hat1 : SqT K (upd H' d (Been P w d (ks ++ [(stdK (o1, o2), at_)]))) at_ [.int o1, .int o2] := SqT.ext hat hbn
            have hky1 : KeysAt K (upd H' d (Been P w d (ks ++ [(stdK (o1, o2), at_)]))) (ks ++ [(stdK (o1, o2), at_)]) := (hky.ext hbn).snoc hat1
            have hv1' : DatV K (upd H' d (Been P w d (ks ++ [(stdK (o1, o2), at_)]))) v1 (tbD a) := hv1.same sm1
            have hv2' : DatV K (upd H' d (Been P w d (ks ++ [(stdK (o1, o2), at_)]))) v2 (tbD b) := hv2.same sm1
            -- the thing that comes next
            have fin : ∀ (x : V) (t' : Th), DatV K (upd H' d (Been P w d (ks ++ [(stdK (o1, o2), at_)]))) x (thD t') → thGood m t' → (goneSt a b (o1, o2) = match t' with | none => none | some (w', q') => if w' = -o1 then some (.inl (w', q')) else some (.inr (w', q'))) →
                ∃ (vt : V) (th : Th) (wi : Int) (ks' : List (List Key × Addr)) (ps' : List (Int × Int)), ([some v1, some v2, some x, some (.int (-o1)), some (.ref d)] : L2.St) = [some v1, some v2, some vt, some (.int wi), some (.ref d)] ∧ Same H (upd H' d (Been P w d (ks ++ [(stdK (o1, o2), at_)]))) ∧ upd H' d (Been P w d (ks ++ [(stdK (o1, o2), at_)])) d = some (Been P w d ks') ∧ KeysAt K (upd H' d (Been P w d (ks ++ [(stdK (o1, o2), at_)]))) ks' ∧ DatV K (upd H' d (Been P w d (ks ++ [(stdK (o1, o2), at_)]))) vt (thD th) ∧ thGood m th ∧ (wi = 1 ∨ wi = -1) ∧ ks'.map (·.1) = ps'.map stdK ∧ (∀ s ∈ ps', PairV m s) ∧ ps'.length + n' = 2 * m + 1 ∧
                ((∃ s0 q', th = some (wi, q') ∧ R = resOf (goneSt a b) s0 ∧ Und2 (goneSt a b) s0 ps' (wi, q')) ∨ (R = th ∧ ∀ o, th = some o → o.1 ≠ wi)) := fun x t' hx gx hst => by
              refine ⟨x, t', -o1, ks ++ [(stdK (o1, o2), at_)], ps ++ [(o1, o2)], rfl, sm1, upd_same, hky1, hx, gx, by rcases hw with e | e <;> rw [e] <;> decide, snoc_std hks, hps', by rw [List.length_append]; simp only [List.length_cons, List.length_nil]; omega, ?_⟩
              cases t' with
              | none => exact .inr ⟨by rw [eR]; exact U.sticks hst, fun o ho => by cases ho⟩
              | some o' =>
                obtain ⟨w', q'⟩ := o'
                dsimp only at hst
                by_cases hw' : w' = -o1
                · rw [if_pos hw'] at hst
                  subst hw'
                  exact .inl ⟨s0, q', rfl, eR, U.next hin hst⟩
                · rw [if_neg hw'] at hst
                  exact .inr ⟨by rw [eR]; exact U.outs hst, fun o ho => by cases ho; exact hw'⟩
            refine ⟨_, rfl, rfl, _, rfl, ?_⟩
            rcases hw with rfl | rfl
            · rw [decide_eq_true rfl]
              obtain ⟨aa, pf, pa, xf, xa, rfl, h1, h2, h3, h4, h5⟩ := tb_side hv2'
              obtain ⟨x, hx, hdx⟩ := side_at h4 gb.lf V0.2.1 V0.2.2
              refine iteT ⟨_, rfl, aa, _, _, _, rfl, rfl, h1, atI_nat (j := 0) rfl, _, rfl, at_, _, _, _, rfl, rfl, hat1, atI_nat (j := 1) rfl, rIx_seq (.inr h2) hx ?_⟩
              refine ⟨_, rfl, _, rfl, ?_⟩
              have ge : b.f.getD o2.toNat none = b.at 1 o2 := by unfold Tb.at; rw [if_pos rfl]
              rw [ge] at hdx
              exact fin x _ hdx (gb.at (w := 1) V0.2.1 V0.2.2).2 (by unfold goneSt; dsimp only; rw [if_pos rfl]; try (cases b.at 1 o2 <;> rfl))
            · rw [decide_eq_false (by decide)]
              obtain ⟨aa, pf, pa, xf, xa, rfl, h1, h2, h3, h4, h5⟩ := tb_side hv1'
              obtain ⟨x, hx, hdx⟩ := side_at h5 ga.la V0.2.1 V0.2.2
              refine iteF ⟨_, rfl, aa, _, _, _, rfl, rfl, h1, atI_nat (j := 1) rfl, _, rfl, at_, _, _, _, rfl, rfl, hat1, atI_nat (j := 1) rfl, rIx_seq (.inr h3) hx ?_⟩
              refine ⟨_, rfl, _, rfl, ?_⟩
              have ge : a.a.getD o2.toNat none = a.at (-1) o2 := by unfold Tb.at; rw [if_neg (by decide)]
              rw [ge] at hdx
              exact fin x _ hdx (ga.at (w := -1) V0.2.1 V0.2.2).2 (by unfold goneSt; dsimp only; rw [if_neg (by decide)]; try (cases a.at (-1) o2 <;> rfl))
        · exact absurd rfl (z _ rfl)
      · rw [decide_eq_false (show ¬ V.int o1 = V.int wi from fun e => hd1 (V.int.inj e))]
        refine iteF ?_
        rcases hrun with ⟨_, _, z, _⟩ | ⟨e, _⟩
        · cases z; exact absurd rfl hd1
        · refine ⟨_, rfl, q _ H' sm ?_⟩
          rw [e]; exact hth
theorem sc_behind : FnScope ["one", "other", "fore", "aft"] ["one", "other"] (defScope (top 11)) := ⟨rfl, rfl, rfl, by decide +kernel, rfl, by decide +kernel, by decide +kernel⟩
theorem ok_behind (T : Txt K mg) (D : DefAt K mg "behind" (top 11) ["one", "other"]) (C1 : Calls P w K mg base CX0 1 "gone_out" ["one", "other", "thing", "inward"] (spGone K)) : Calls P w K mg base CX0 2 "behind" ["one", "other"] (spBehind K) := by
  refine D.ok sc_behind (fun vs H Q E h => ?_) (fun f cdv A outer s H vs Q E hr h => ?_)
  · obtain ⟨v1, v2, a, b, m, rfl, _⟩ := h; rfl
  · obtain ⟨v1, v2, a, b, m, rfl, hv1, hv2, ga, gb, hm, q⟩ := h
    have nd := sc_behind.nd
    refine ⟨_, (pss_cons (ps_set (i := 2) nd rfl (Or.inl rfl) (pe_callTy call_tuple_of rfl T.b_tuple PyProof.Rows.boot_tuple (pa_cons (pe_comp (N := ["thing", "one", "other"]) (js := [none, some 0, some 1]) rfl (.own (.cap rfl (.inl rfl) (.inl rfl) (.cap rfl (.inl rfl) (.inl rfl) .nil))) (by rfl) (pi_seq (pe_ix ix_tup (pv 0) pe_int (fun _ _ => rfl)))) pa_nil)))
      (pss_cons (ps_set (i := 3) nd rfl (Or.inl rfl) (pe_callTy call_tuple_of rfl T.b_tuple PyProof.Rows.boot_tuple (pa_cons (pe_comp (N := ["thing", "one", "other"]) (js := [none, some 0, some 1]) rfl (.own (.cap rfl (.inl rfl) (.inl rfl) (.cap rfl (.inl rfl) (.inl rfl) .nil))) (by rfl) (pi_seq (pe_ix ix_tup (pv 1) pe_int (fun _ _ => rfl)))) pa_nil)))
      (pss_one (ps_ret (pe_tup (pa_cons (pv 2) (pa_cons (pv 3) pa_nil))))))), ?_⟩
    obtain ⟨aa, pf, pa, xf, xa, rfl, h1, h2, h3, h4, h5⟩ := tb_side hv1
    have hxf : xf.length = m := by rw [h4.length, List.length_map, ga.lf]
    have hz : ∀ n, n = m → n ≤ sizeLine := fun n e => by rw [e]; exact Nat.le_trans hm (by decide)
    refine ⟨_, rfl, aa, _, _, _, rfl, rfl, h1, atI_nat (j := 0) rfl, pf, rfl, ?_⟩
    refine comp_seq (.inr h2) (fun i ys H' => Same H H' ∧ ys.length = i ∧ DatVs K H' ys (((a.f.map fun th => goneR a b th 1).take i).map thD)) (hz _ hxf) ⟨Same.refl H, rfl, .nil⟩ (fun i ys H' hi w => ⟨Nat.le_of_eq w.2.1, w.1⟩) (fun i x ys H' hx w => ?_) (fun ys H' w p hp => ?_)
    · obtain ⟨sm, hl, hd⟩ := w
      obtain ⟨dd, hdd, hdx⟩ := h4.get hx
      rw [List.getElem?_map] at hdd
      obtain ⟨th, hth, rfl⟩ : ∃ th, a.f[i]? = some th ∧ thD th = dd := by
        cases e : a.f[i]? with
        | none => rw [e] at hdd; cases hdd
        | some y => rw [e] at hdd; exact ⟨y, rfl, Option.some.inj hdd⟩
      refine fun cl C s H0 fp => ⟨_, _, _, (pg_name (i := 0) (show (["thing", "one", "other"] : List Str).Nodup by decide +kernel) rfl (Or.inl rfl)), pif_nil, (pe_fn C1 (hr.mono (by decide)) rfl pass0 (pa_cons (pv 1) (pa_cons (pv 2) (pa_cons (pv 0) (pa_cons pe_int pa_nil))))), fun σ0 ks => ?_⟩
      obtain ⟨u, ρ, rfl, ks1⟩ := KeepsV.own_of (τ := [some (.ref aa), some v2]) ks
      obtain ⟨ρ1, rfl, ks2⟩ := KeepsV.cap_of ks1
      obtain ⟨ρ2, rfl, ks3⟩ := KeepsV.cap_of ks2
      obtain rfl := ks3.nil_of
      refine ⟨.own (.cap (.cap .nil)), _, rfl, _, rfl, _, rfl, .ref aa, v2, x, a, b, m, th, 1, rfl, hv1.same sm, hv2.same sm, ga, gb, hm, hdx.same sm, ga.gf th (List.mem_of_getElem? hth), .inl rfl, fun y H3 sm3 hy => ?_⟩
      refine ⟨sm.trans sm3, by rw [List.length_append, hl]; rfl, ?_⟩
      rw [List.take_add_one, List.getElem?_map, hth, List.map_append]
      exact DatVs.append (hd.same sm3) (.cons hy .nil)
    · obtain ⟨sm, hl, hd⟩ := w
      rw [behind_f ga gb, hxf, List.take_of_length_le (by unfold boxTab; simp)] at hd
      refine ⟨p, ys, rfl, .inl ⟨.inl (.inl upd_same), fun t ht => ?_⟩⟩
      have g := (Same.upd (o := .lst ys) hp).trans (Same.upd (o := .tup ys) ht)
      have ht' := upd_at (o := .tup ys) ht
      generalize upd (upd H' p (.lst ys)) t (.tup ys) = G at g ht' ⊢
      have smG := sm.trans g
      have hv1G := hv1.same smG
      have hv2G := hv2.same smG
      obtain ⟨ab, pf2, pa2, xf2, xa2, rfl, h1b, h2b, h3b, h4b, h5b⟩ := tb_side hv2G
      have hxa2 : xa2.length = m := by rw [h5b.length, List.length_map, gb.la]
      refine ⟨_, rfl, ab, _, _, _, rfl, rfl, h1b, atI_nat (j := 1) rfl, pa2, rfl, ?_⟩
      refine comp_seq (.inr h3b) (fun i zs H' => Same G H' ∧ zs.length = i ∧ DatVs K H' zs (((b.a.map fun th => goneR a b th (-1)).take i).map thD)) (hz _ hxa2) ⟨Same.refl G, rfl, .nil⟩ (fun i ys H' hi w => ⟨Nat.le_of_eq w.2.1, w.1⟩) (fun i x zs H' hx w => ?_) (fun zs H' w p2 hp2 => ?_)
      · obtain ⟨sm2, hl2, hd2⟩ := w
        obtain ⟨dd, hdd, hdx⟩ := h5b.get hx
        rw [List.getElem?_map] at hdd
        obtain ⟨th, hth, rfl⟩ : ∃ th, b.a[i]? = some th ∧ thD th = dd := by
          cases e : b.a[i]? with
          | none => rw [e] at hdd; cases hdd
          | some y => rw [e] at hdd; exact ⟨y, rfl, Option.some.inj hdd⟩
        refine fun cl C s H0 fp => ⟨_, _, _, (pg_name (i := 0) (show (["thing", "one", "other"] : List Str).Nodup by decide +kernel) rfl (Or.inl rfl)), pif_nil, (pe_fn C1 (hr.mono (by decide)) rfl pass0 (pa_cons (pv 1) (pa_cons (pv 2) (pa_cons (pv 0) (pa_cons (pe_un un_neg pe_int) pa_nil))))), fun σ0 ks => ?_⟩
        obtain ⟨u, ρ, rfl, ks1⟩ := KeepsV.own_of (τ := [some (.ref aa), some (.ref ab)]) ks
        obtain ⟨ρ1, rfl, ks2⟩ := KeepsV.cap_of ks1
        obtain ⟨ρ2, rfl, ks3⟩ := KeepsV.cap_of ks2
        obtain rfl := ks3.nil_of
        refine ⟨.own (.cap (.cap .nil)), _, rfl, _, rfl, _, rfl, _, rfl, .ref aa, .ref ab, x, a, b, m, th, -1, rfl, hv1G.same sm2, hv2G.same sm2, ga, gb, hm, hdx.same sm2, gb.ga th (List.mem_of_getElem? hth), .inr rfl, fun y H3 sm3 hy => ?_⟩
        refine ⟨sm2.trans sm3, by rw [List.length_append, hl2]; rfl, ?_⟩
        rw [List.take_add_one, List.getElem?_map, hth, List.map_append]
        exact DatVs.append (hd2.same sm3) (.cons hy .nil)
      · obtain ⟨sm2, hl2, hd2⟩ := w
        rw [behind_a ga gb, hxa2, List.take_of_length_le (by unfold boxTab; simp)] at hd2
        refine ⟨p2, zs, rfl, .inl ⟨.inl (.inl upd_same), fun t2 ht2 => ?_⟩⟩
        have g2 := (Same.upd (o := .lst zs) hp2).trans (Same.upd (o := .tup zs) ht2)
        have ht2' := upd_at (o := .tup zs) ht2
        generalize upd (upd H' p2 (.lst zs)) t2 (.tup zs) = G2 at g2 ht2' ⊢
        refine ⟨_, rfl, _, rfl, by show 2 ≤ sizeLine; decide, fun t3 ht3 => ?_⟩
        have g3 := Same.upd (o := .tup [.ref t, .ref t2]) ht3
        have g4 := sm2.trans (g2.trans g3)
        exact q _ _ (smG.trans g4) (.tup (.inl (.inl upd_same)) (.cons (.tup (.inl (.inl (g4 _ _ ht'))) (hd.same (g.trans g4))) (.cons (.tup (.inl (.inl (g3 _ _ ht2'))) (hd2.same (g2.trans g3))) .nil)))
end
end Mc
namespace Mc
open PySem L2 PyProof.Rows
def spTabOf (K : PySem.W.Frag) (C : Addr) : Sp := fun vs H Q E => ∃ (v : V) (z : Str) (rs : List Rw) (sg : Nat), vs = [v, .str z] ∧ DatV K H v (machD rs) ∧ Mach rs sg ∧ z.cps.toList.length ≤ 1000 ∧
  (∀ u H', badAt sg 0 z.cps.toList = none → Same H H' → DatV K H' u (tbD (stripT rs z.cps.toList)) → Q u H') ∧
  (∀ (i : Nat) e d H', badAt sg 0 z.cps.toList = some i → Same H H' → H' e = some (ExO e C (some d)) → H' d = some (.xd [("at", .int i)]) → E (.ref C) (some e) H')
theorem mach_cons' {rs : List Rw} {sg : Nat} (M : Mach rs sg) : ∃ r rt, rs = r :: rt ∧ r.c.length = sg := by
  cases rs with
  | nil => exact absurd M.len (by simp)
  | cons r rt => exact ⟨r, rt, rfl, (M.row r (by simp)).2⟩
section
variable {P : Program} {w : World} {K : PySem.W.Frag} {mg : Str → Option Value} {base : Heap}
theorem sc_tabof : FnScope ["machine", "strip", "tables", "table", "sign"] ["machine", "strip"] (defScope (top 12)) := ⟨rfl, rfl, rfl, by decide +kernel, rfl, by decide +kernel, by decide +kernel⟩
theorem ok_tabof {C : Addr} (T : Txt K mg) (D : DefAt K mg "table_of" (top 12) ["machine", "strip"]) (C1 : Calls P w K mg base (CXe P w) 3 "checked" ["machine", "strip"] (spChecked K C)) (C2 : Calls P w K mg base (CXe P w) 4 "sign_table" ["machine", "sign"] (spSignT K C))
    (C3 : Calls P w K mg base CX0 1 "signs_of" ["machine"] (spSigns K)) (C4 : Calls P w K mg base CX0 1 "still" ["rooms"] (spStill K)) (C5 : Calls P w K mg base CX0 2 "behind" ["one", "other"] (spBehind K)) : Calls P w K mg base (CXe P w) 5 "table_of" ["machine", "strip"] (spTabOf K C) := by
  obtain ⟨tG, mG⟩ := T.signs
  refine D.okX sc_tabof (fun vs H Q E h => ?_) (fun f cdv A outer s H vs Q E hr h => ?_)
  · obtain ⟨v, z, rs, sg, rfl, _⟩ := h; rfl
  · obtain ⟨v, z, rs, sg, rfl, hd, M, hzl, qT, qE⟩ := h
    have nd := sc_tabof.nd
    refine ⟨_, (pss_cons (ps_expr (pe_fn C1 (hr.mono (by decide)) rfl (passX fun _ _ _ h => h) (pa_cons (pv 0) (pa_cons (pv 1) pa_nil))))
      (pss_cons (ps_setComp (i := 2) nd rfl (Or.inl rfl) (by rfl) (N := ["sign", "machine"]) (js := [none, some 0]) rfl (.own (.cap rfl (.inl rfl) (.inl rfl) .nil)) (by rfl) (pi_str (pe_slice sl_str (pe_glob (v := .str "abc") rfl mG ⟨_, rfl⟩) po_none (po_some (pe_fn C3 (hr.mono (by decide)) rfl pass0 (pa_cons (pv 0) pa_nil))))))
      (pss_cons (ps_set (i := 3) nd rfl (Or.inl rfl) (pe_fn C4 (hr.mono (by decide)) rfl pass0 (pa_cons (pe_callB call_len_seq rfl T.b_len PySem.boot_len (pa_cons (pv 0) pa_nil)) pa_nil)))
      (pss_cons (ps_for (own_fly ⟨rfl, rfl⟩) rfl (pi_str (pv 1)) (pg_name (i := 4) nd rfl (Or.inl rfl))
      (pss_one (ps_set (i := 3) nd rfl (Or.inl rfl) (pe_fn C5 (hr.mono (by decide)) rfl pass0 (pa_cons (pv 3) (pa_cons (pe_ix ix_list (pv 2) (pe_bm PySem.F.plainAttrs_str PySem.F.slot_str_index PySem.F.type_str_index mt_index (pe_glob (v := .str "abc") rfl mG ⟨_, rfl⟩) (pa_cons (pv 4) pa_nil)) (fun _ _ => rfl)) pa_nil))))))
      (pss_one (ps_ret (pv 3))))))), ?_⟩
    obtain ⟨r, rt, hrs, hrc⟩ := mach_cons' M
    have hd' := hd
    rw [hrs] at hd'
    have hall : ∀ x ∈ r :: rt, x.c.length = r.c.length := fun x hx => by rw [hrc]; exact (M.row x (by rw [hrs]; exact hx)).2
    have hsg1 := M.sg1
    have hsg3 := M.sg3
    have hrl : (r :: rt).length ≤ 1000 := by rw [← hrs]; exact M.len2
    refine ⟨_, rfl, _, rfl, v, r, rt, z, rfl, hd', by rw [hrc]; exact hsg1, by rw [hrc]; exact hsg3, fun H1 hb sm => ?_, fun i e d H1 hb sm he hdd => qE i e d H1 (by rw [← hrc]; exact hb) sm he hdd⟩
    rw [hrc] at hb
    have S : Strip sg z.cps.toList := ⟨hzl, fun c hc => badAt_none hb c hc⟩
    refine ⟨_, rfl, v, r, rt, rfl, hd'.same sm, _, rfl, _, rfl, by decide +kernel, ?_⟩
    rw [hrc]
    have hab := abc_cps hsg1 hsg3
    refine ⟨_, rfl, ?_⟩
    have hsz : (Txt.slice "abc" none (some (sg : Int))).cps.size = sg := by
      rw [← Array.length_toList, hab, List.length_take]; show min sg 3 = sg; omega
    refine comp_str (fun i ys H' => Same H1 H' ∧ ys.length = i ∧ DatVs K H' ys (((List.range i).map fun k : Nat => signTb k rs).map tbD)) (by rw [hsz]; exact Nat.le_trans hsg3 (by decide)) ⟨Same.refl H1, rfl, .nil⟩ (fun i ys H' hi w => Nat.le_of_eq w.2.1) (fun i c ys H' hc w => ?_) (fun ys H' w p hp => ?_)
    · obtain ⟨sm2, hl, hdy⟩ := w
      have hc' : (([97, 98, 99] : List Nat).take sg)[i]? = some c := by rw [← hab, Array.getElem?_toList]; exact hc
      have his : isSign sg c = true := (take_sign hsg1 hsg3).mpr ⟨i, hc'⟩
      have hci : c - 97 = i ∧ i < sg := by
        obtain ⟨hl3, he3⟩ := List.getElem?_eq_some_iff.mp hc'
        rw [List.length_take] at hl3
        have h3 : ([97, 98, 99] : List Nat).length = 3 := rfl
        rw [h3] at hl3
        have hi3 : i < sg := by omega
        refine ⟨?_, hi3⟩
        rw [List.getElem?_take_of_lt hi3] at hc'
        obtain rfl | rfl | rfl : i = 0 ∨ i = 1 ∨ i = 2 := by omega
        all_goals (cases hc'; rfl)
      refine fun cl C' s H0 fp => ⟨_, _, _, (pg_name (i := 0) (show (["sign", "machine"] : List Str).Nodup by decide +kernel) rfl (Or.inl rfl)), pif_nil, (pe_fn C2 (hr.mono (by decide)) rfl passN (pa_cons (pv 1) (pa_cons (pv 0) pa_nil))), fun σ0 ks => ?_⟩
      obtain ⟨u, ρ, rfl, ks1⟩ := KeepsV.own_of (τ := [some v]) ks
      obtain ⟨ρ1, rfl, ks2⟩ := KeepsV.cap_of ks1
      obtain rfl := ks2.nil_of
      refine ⟨.own (.cap .nil), _, rfl, _, rfl, v, r, rt, c, rfl, hd'.same (sm.trans sm2), hall, by rw [hrc]; exact hsg1, by rw [hrc]; exact hsg3, hrl, fun y H3 _ sm3 hy => ?_, fun e d H3 hs => ?_⟩
      · refine ⟨sm2.trans sm3, by rw [List.length_append, hl]; rfl, ?_⟩
        rw [List.range_succ, List.map_append, List.map_append]
        refine DatVs.append (hdy.same sm3) (.cons ?_ .nil)
        rw [hci.1, ← hrs, ← signTb_D] at hy
        exact hy
      · rw [hrc, his] at hs; cases hs
    · obtain ⟨sm2, hl, hdy⟩ := w
      rw [hsz] at hdy
      have g := Same.upd (o := .lst ys) hp
      have hp' := upd_at (o := .lst ys) hp
      generalize upd H' p (.lst ys) = G at g hp' ⊢
      have smG := sm.trans (sm2.trans g)
      have hdG := hdy.same g
      obtain ⟨ma, xs, rfl, hm1, hm2⟩ := (hd.same smG).tup_of
      have hxl : xs.length = rs.length := by rw [hm2.length, List.length_map]
      have hm1000 : rs.length ≤ 1000 := M.len2
      refine ⟨_, rfl, ma, xs, rfl, .inr hm1, xs.length, rfl, by omega, fun tv H3 sm3 htv => ?_⟩
      rw [hxl, ← still_D] at htv
      refine ⟨_, rfl, z, rfl, ?_⟩
      refine for_str (z := z) (fun i σ H' => Same G H' ∧ ∃ (tv : V) (u4 : Option V), σ = [some (.ref ma), some (.str z), some (.ref p), some tv, u4] ∧ DatV K H' tv (tbD (stripT rs (z.cps.toList.take i)))) ⟨sm3, tv, _, rfl, ?_⟩ (fun i c σ H' hc w => ?_) (fun σ H' w => ?_)
      · rw [List.take_zero]
        unfold stripT
        rw [if_pos rfl]; exact htv
      · obtain ⟨sm4, tv, u4, rfl, htv⟩ := w
        have hc' : z.cps.toList[i]? = some c := by rw [Array.getElem?_toList]; exact hc
        have his := S.2 c (List.mem_of_getElem? hc')
        have hcn := of_decide_eq_true his
        obtain ⟨rr, hix⟩ := index_abc (sign_mono hsg3 his)
        obtain ⟨y, hy, hdy2⟩ := (hdG.same sm4).get' (i := c - 97) (d := tbD (signTb (c - 97) rs)) (by rw [List.getElem?_map, List.getElem?_map, List.getElem?_range (by omega)]; rfl)
        refine ⟨_, rfl, _, rfl, rfl, _, rfl, "abc", ⟨#[c]⟩, c - 97, rr, rfl, rfl, hix, p, ys, _, _, rfl, rfl, .inl (.inl (sm4 _ _ hp')), atI_nat (j := c - 97) hy, tv, y, stripT rs (z.cps.toList.take i), signTb (c - 97) rs, rs.length, rfl, htv, hdy2, stripT_good M (S.take i), signTb_good M (by omega), hm1000, fun nv H5 sm5 hnv => ?_⟩
        refine ⟨sm4.trans sm5, nv, _, rfl, ?_⟩
        rw [stripT_snoc M (S.take i) his] at hnv
        rw [List.take_add_one, hc']
        exact hnv
      · obtain ⟨sm4, tv, u4, rfl, htv⟩ := w
        rw [List.take_of_length_le (by simp)] at htv
        exact ⟨_, rfl, qT tv H' hb (smG.trans sm4) htv⟩
end
end Mc
namespace Mc
open PySem L2 PyProof.Rows
def spWhole : Sp := fun vs H Q _ => ∃ i : Int, vs = [.int i] ∧ Q (.bl true) H
section
variable {P : Program} {w : World} {K : PySem.W.Frag} {mg : Str → Option Value} {base : Heap}
theorem sc_whole : FnScope ["_law_found"] ["_law_found"] (defScope (top 14)) := ⟨rfl, rfl, rfl, by decide +kernel, rfl, by decide +kernel, by decide +kernel⟩
theorem ok_whole (T : Txt K mg) (D : DefAt K mg "_law_whole" (top 14) ["_law_found"]) : CallsH P w K mg base 1 "_law_whole" ["_law_found"] spWhole := by
  refine D.okH sc_whole (fun vs H Q E h => ?_) (fun f cdv A outer s H vs Q hr h => ?_)
  · obtain ⟨t, rfl, _⟩ := h; rfl
  · obtain ⟨i, rfl, q⟩ := h
    refine ⟨_, (pss_one (ps_ret (pe_and (pe_callB call_isinst rfl T.b_isinstance PyProof.Rows.boot_isinstance (pa_cons (pv 0) (pa_cons (pe_bltn (v := .ty "int") rfl T.b_int PyProof.Rows.boot_int rfl) pa_nil))) (pe_one (pe_not (pe_callB call_isinst rfl T.b_isinstance PyProof.Rows.boot_isinstance (pa_cons (pv 0) (pa_cons (pe_bltn (v := .ty "bool") rfl T.b_bool PyProof.Rows.boot_bool rfl) pa_nil)))))))), ?_⟩
    refine ⟨_, rfl, .int i, .ty "int", .type "int", .type "int", true, rfl, .pl (.int i), rfl, rfl, true, rfl, iteT ?_⟩
    exact ⟨_, rfl, .int i, .ty "bool", .type "int", .type "bool", false, rfl, .pl (.int i), rfl, by rfl, false, rfl, q⟩
theorem whole_E : ∀ vs H Q E, spWhole vs H Q E → spWhole vs H Q E0 := fun _ _ _ _ h => h
end
def spThing (K : PySem.W.Frag) : Sp := fun vs H Q _ => ∃ (v : V) (d : PyData), vs = [v] ∧ DatV K H v d ∧ IsThing d ∧ ∀ H', Same H H' → Q (.bl true) H'
def spTable (K : PySem.W.Frag) : Sp := fun vs H Q _ => ∃ (v u : V) (f a : List PyData), vs = [v, u] ∧ DatV K H v (tabD f a) ∧ DatV K H u (tabD f a) ∧ (∀ d ∈ f, IsThing d) ∧ (∀ d ∈ a, IsThing d) ∧ f.length ≤ 1000 ∧ a.length ≤ 1000 ∧ ∀ H', Same H H' → Q (.bl true) H'
section
variable {P : Program} {w : World} {K : PySem.W.Frag} {mg : Str → Option Value} {base : Heap}
theorem sc_thing : FnScope ["_law_found"] ["_law_found"] (defScope (top 15)) := ⟨rfl, rfl, rfl, by decide +kernel, rfl, by decide +kernel, by decide +kernel⟩
theorem ok_thing (T : Txt K mg) (D : DefAt K mg "_law_is_thing" (top 15) ["_law_found"]) (C1 : Calls P w K mg base CX0 1 "_law_whole" ["_law_found"] spWhole) : Calls P w K mg base CX0 2 "_law_is_thing" ["_law_found"] (spThing K) := by
  refine D.ok sc_thing (fun vs H Q E h => ?_) (fun f cdv A outer s H vs Q E hr h => ?_)
  · obtain ⟨v, d, rfl, _⟩ := h; rfl
  · obtain ⟨v, d, rfl, hd, ht, q⟩ := h
    refine ⟨_, (pss_cons (ps_if (pt_cmpR op_isN (pv 0) pe_non (nomark _)) (pss_one (ps_ret pe_bl)) pss_nil)
      (pss_one (ps_ret (pe_and (pe_callB call_isinstQ rfl T.b_isinstance PyProof.Rows.boot_isinstance (pa_cons (pv 0) (pa_cons (pe_bltn (v := .ty "tuple") rfl T.b_tuple PyProof.Rows.boot_tuple rfl) pa_nil))) (pe_and (pe_cmpR op_eq (pe_callB call_len_seq rfl T.b_len PySem.boot_len (pa_cons (pv 0) pa_nil)) pe_int (nomark _)) (pe_one (pe_callB (call_allL rfl) rfl T.b_all PyProof.Rows.boot_all (pa_cons (pe_comp (N := ["_law_number"]) (js := [none]) rfl (.own .nil) (by rfl) (pi_tup (pv 0))) pa_nil)))))))), ?_⟩
    rcases ht with rfl | ⟨s1, q1, rfl⟩
    · cases hd
      exact ⟨_, rfl, rfl, _, rfl, iteT (q H (Same.refl H))⟩
    · obtain ⟨a, xs, rfl, h1, h2⟩ := hd.tup_of
      obtain ⟨x0, t0, rfl, h3, h4⟩ := h2.cons_of
      obtain ⟨x1, t1, rfl, h5, h6⟩ := h4.cons_of
      obtain rfl := h6.nil_of
      obtain rfl := h3.int_of
      obtain rfl := h5.int_of
      refine ⟨_, rfl, rfl, _, rfl, iteF ?_⟩
      refine ⟨_, rfl, a, _, .ty "tuple", .type "tuple", true, rfl, h1, rfl, rfl, true, rfl, iteT ?_⟩
      refine ⟨_, rfl, a, _, rfl, .inr h1, rfl, true, rfl, iteT ?_⟩
      refine ⟨_, rfl, a, rfl, ⟨_, h1⟩, ?_⟩
      refine comp_tup (K := K) (xs := [V.int s1, V.int q1]) (fun i ys H' => Same H H' ∧ ys = (List.replicate i true).map V.bl) (by show 2 ≤ sizeLine; decide) ⟨Same.refl H, rfl⟩ (fun i ys H' hi w => ⟨by rw [w.2]; simp, h1.same w.1⟩) (fun i x ys H' hx w => ?_) (fun ys H' w p hp => ?_)
      · obtain ⟨sm, rfl⟩ := w
        refine fun cl C s H0 fp => ⟨_, _, _, (pg_name (i := 0) (show (["_law_number"] : List Str).Nodup by decide +kernel) rfl (Or.inl rfl)), pif_nil, (pe_fn C1 (hr.mono (by decide)) rfl pass0 (pa_cons (pv 0) pa_nil)), fun σ0 ks => ?_⟩
        obtain ⟨u, ρ, rfl, ks1⟩ := KeepsV.own_of (τ := []) ks
        obtain rfl := ks1.nil_of
        obtain ⟨k, rfl⟩ : ∃ k, x = V.int k := by
          have := List.mem_of_getElem? hx
          rcases List.mem_cons.mp this with z | z
          · exact ⟨_, z⟩
          · exact ⟨_, List.mem_singleton.mp z⟩
        refine ⟨.own .nil, _, rfl, k, rfl, sm, ?_⟩
        rw [List.replicate_succ', List.map_append]; rfl
      · obtain ⟨sm, rfl⟩ := w
        refine ⟨p, [true, true], rfl, .inl (.inl upd_same), ?_⟩
        exact q _ (sm.trans (Same.upd hp))
theorem sc_table : FnScope ["_law_found", "_law_due", "_law_things"] ["_law_found", "_law_due"] (defScope (top 16)) := ⟨rfl, rfl, rfl, by decide +kernel, rfl, by decide +kernel, by decide +kernel⟩
theorem ok_table (T : Txt K mg) (D : DefAt K mg "_law_is_table" (top 16) ["_law_found", "_law_due"]) (C1 : Calls P w K mg base CX0 2 "_law_is_thing" ["_law_found"] (spThing K)) : Calls P w K mg base CX0 3 "_law_is_table" ["_law_found", "_law_due"] (spTable K) := by
  refine D.ok sc_table (fun vs H Q E h => ?_) (fun f cdv A outer s H vs Q E hr h => ?_)
  · obtain ⟨v, u, f, a, rfl, _⟩ := h; rfl
  · obtain ⟨v, u, f, a, rfl, hd, hu, hf, ha, zf, za, q⟩ := h
    have nd := sc_table.nd
    have hu64 := hr.units
    refine ⟨_, (pss_cons (ps_if (PW.pt (pw_or (pt_not (pt_val (pe_callB call_isinstQ rfl T.b_isinstance PyProof.Rows.boot_isinstance (pa_cons (pv 0) (pa_cons (pe_bltn (v := .ty "tuple") rfl T.b_tuple PyProof.Rows.boot_tuple rfl) pa_nil))))) (pw_or (pt_cmpR op_ne (pe_callB call_len_seq rfl T.b_len PySem.boot_len (pa_cons (pv 0) pa_nil)) pe_int (nomark _)) (pw_or1 (pt_cmpR (op_neD hu64) (pv 0) (pv 1) (nomark _)))))) (pss_one (ps_ret pe_bl)) pss_nil)
      (pss_cons (ps_for PassesOwn.never rfl (pi_tup (pv 0)) (pg_name (i := 2) nd rfl (Or.inl rfl))
      (pss_one (ps_if (PW.pt (pw_or (pt_not (pt_val (pe_callB call_isinstQ rfl T.b_isinstance PyProof.Rows.boot_isinstance (pa_cons (pv 2) (pa_cons (pe_bltn (v := .ty "tuple") rfl T.b_tuple PyProof.Rows.boot_tuple rfl) pa_nil))))) (pw_or1 (pt_not (pt_val (pe_callB (call_allL rfl) rfl T.b_all PyProof.Rows.boot_all (pa_cons (pe_comp (N := ["_law_thing"]) (js := [none]) rfl (.own .nil) (by rfl) (pi_tup (pv 2))) pa_nil))))))) (pss_one (ps_ret pe_bl)) pss_nil)))
      (pss_one (ps_ret pe_bl)))), ?_⟩
    obtain ⟨p, xs, rfl, h1, h2⟩ := hd.tup_of
    have hxl : xs.length = 2 := h2.length
    refine ⟨_, rfl, p, _, .ty "tuple", .type "tuple", true, rfl, h1, rfl, rfl, true, rfl, iteF ?_⟩
    refine ⟨_, rfl, p, xs, rfl, .inr h1, rfl, _, rfl, ?_⟩
    rw [hxl]
    refine iteF ?_
    refine ⟨_, rfl, _, rfl, _, _, hd, hu, shaped_tab hf ha, shaped_tab hf ha, _, rfl, ?_⟩
    rw [eqv_tab hf ha]
    refine iteF ?_
    refine ⟨_, rfl, p, rfl, ⟨xs, h1⟩, ?_⟩
    refine for_tup (K := K) (a := p) (xs := xs) (fun i σ H' => Same H H' ∧ ∃ u2, σ = [some (.ref p), some u, u2]) ⟨Same.refl H, _, rfl⟩ (fun i σ H' _ w => h1.same w.1) (fun i x σ H' hx w => ?_) (fun σ H' w => ?_)
    · obtain ⟨sm, u2, rfl⟩ := w
      obtain ⟨d, hdi, hdx⟩ := h2.get hx
      obtain ⟨ts, rfl, hts, hzt⟩ : ∃ ts, d = .tuple ts ∧ (∀ d ∈ ts, IsThing d) ∧ ts.length ≤ 1000 := by
        have := List.mem_of_getElem? hdi
        rcases List.mem_cons.mp this with z | z
        · exact ⟨f, z, hf, zf⟩
        · exact ⟨a, List.mem_singleton.mp z, ha, za⟩
      obtain ⟨b, ys, rfl, h3, h4⟩ := (hdx.same sm).tup_of
      have hyl := h4.length
      refine ⟨_, rfl, b, _, .ty "tuple", .type "tuple", true, rfl, h3, rfl, rfl, true, rfl, iteF ?_⟩
      refine ⟨_, rfl, b, rfl, ⟨ys, h3⟩, ?_⟩
      refine comp_tup (K := K) (xs := ys) (fun i zs H2 => Same H' H2 ∧ zs = (List.replicate i true).map V.bl) (by rw [hyl]; exact Nat.le_trans hzt (by decide)) ⟨Same.refl _, rfl⟩ (fun i zs H2 hi w => ⟨by rw [w.2]; simp, h3.same w.1⟩) (fun i x zs H2 hx w => ?_) (fun zs H2 w p2 hp2 => ?_)
      · obtain ⟨sm2, rfl⟩ := w
        obtain ⟨dd, hdd, hdv⟩ := h4.get hx
        refine fun cl C s H0 fp => ⟨_, _, _, (pg_name (i := 0) (show (["_law_thing"] : List Str).Nodup by decide +kernel) rfl (Or.inl rfl)), pif_nil, (pe_fn C1 (hr.mono (by decide)) rfl pass0 (pa_cons (pv 0) pa_nil)), fun σ0 ks => ?_⟩
        obtain ⟨u, ρ, rfl, ks1⟩ := KeepsV.own_of (τ := []) ks
        obtain rfl := ks1.nil_of
        refine ⟨.own .nil, _, rfl, x, dd, rfl, hdv.same sm2, hts dd (List.mem_of_getElem? hdd), fun H3 sm3 => ?_⟩
        refine ⟨sm2.trans sm3, ?_⟩
        rw [List.replicate_succ', List.map_append]; rfl
      · obtain ⟨sm2, rfl⟩ := w
        refine ⟨p2, List.replicate ys.length true, rfl, .inl (.inl upd_same), true, ?_, iteF ?_⟩
        · congr 1
          rw [List.all_replicate]
          split <;> rfl
        · exact ⟨sm.trans (sm2.trans (Same.upd hp2)), _, rfl⟩
    · obtain ⟨sm, u2, rfl⟩ := w
      exact q _ sm
end
def spLCell (K : PySem.W.Frag) : Sp := fun vs H Q _ => ∃ (a : Addr) (ns : List Int) (k : Int), vs = [.ref a, .int k] ∧ SqL K H a (ns.map V.int) ∧ ∀ c : Int, Q (.int c) H
def spEnd : Sp := fun vs H Q _ => ∃ (c many : Int), vs = [.int c, .int many] ∧ 0 < many ∧ ∀ (t : Tn) (H' : Hp), t.good many → Same H H' → Q t.v H'
def spLRow (K : PySem.W.Frag) : Sp := fun vs H Q _ => ∃ (c many : Int) (signs : Nat), vs = [.int c, .int many, .int signs] ∧ 0 < many ∧ many ≤ 1000 ∧ signs ≤ 3 ∧ ∀ (v : V) (r : Rw) (H' : Hp), Same H H' → DatV K H' v (rowD r) → r.good many → r.c.length = signs → Q v H'
def spLMach (K : PySem.W.Frag) : Sp := fun vs H Q _ => ∃ (a : Addr) (ns : List Int) (at_ many : Int) (signs : Nat), vs = [.ref a, .int at_, .int many, .int signs] ∧ SqL K H a (ns.map V.int) ∧ 0 ≤ at_ ∧ 0 < many ∧ many ≤ 1000 ∧ signs ≤ 3 ∧
  ∀ (v : V) (rs : List Rw) (H' : Hp), Same H H' → DatV K H' v (machD rs) → (rs.length : Int) = many → (∀ r ∈ rs, r.good many ∧ r.c.length = signs) → Q v H'
theorem cut2_ints (ns : List Int) : ∃ ms : List Int, cutV (ns.map V.int) (some 2) none = ms.map V.int ∧ ms.length = ns.length - 2 := by
  refine ⟨ns.drop 2, ?_, List.length_drop⟩
  unfold cutV
  rw [List.length_map]
  have e1 : HT.sIx ns.length ns.length none = ns.length := rfl
  have e0 : HT.sIx ns.length 0 (some 2) = min 2 ns.length := by
    show _ = _
    unfold HT.sIx
    simp
  rw [e1, e0, ← List.map_drop, ← List.map_take]
  congr 1
  by_cases h : 2 ≤ ns.length
  · rw [Nat.min_eq_left h, List.take_of_length_le (by rw [List.length_drop]; omega)]
  · rw [List.drop_eq_nil_of_le (by omega : ns.length ≤ min 2 ns.length), List.drop_eq_nil_of_le (by omega : ns.length ≤ 2), List.take_nil]
section
variable {P : Program} {w : World} {K : PySem.W.Frag} {mg : Str → Option Value} {base : Heap}
theorem sc_lcell : FnScope ["_law_script", "_law_k", "_law_cell_here", "_law_mixed"] ["_law_script", "_law_k"] (defScope (top 17)) := ⟨rfl, rfl, rfl, by decide +kernel, rfl, by decide +kernel, by decide +kernel⟩
theorem ok_lcell (T : Txt K mg) (D : DefAt K mg "_law_cell" (top 17) ["_law_script", "_law_k"]) : Calls P w K mg base CX0 1 "_law_cell" ["_law_script", "_law_k"] (spLCell K) := by
  refine D.ok sc_lcell (fun vs H Q E h => ?_) (fun f cdv A outer s H vs Q E hr h => ?_)
  · obtain ⟨a, ns, k, rfl, _⟩ := h; rfl
  · obtain ⟨a, ns, k, rfl, hq, q⟩ := h
    have nd := sc_lcell.nd
    refine ⟨_, (pss_cons (ps_set (i := 2) nd rfl (Or.inl rfl) pe_int)
      (pss_cons (ps_if (pt_cmpR op_gt (pe_callB call_len_seq rfl T.b_len PySem.boot_len (pa_cons (pv 0) pa_nil)) pe_int (nomark _)) (pss_one (ps_set (i := 2) nd rfl (Or.inl rfl) (pe_ix ix_list (pv 0) (pe_op op_mod (pv 1) (pe_callB call_len_seq rfl T.b_len PySem.boot_len (pa_cons (pv 0) pa_nil))) (fun _ _ => rfl)))) pss_nil)
      (pss_cons (ps_set (i := 3) nd rfl (Or.inl rfl) (pe_op op_mod (pe_op op_mul (pe_op op_add (pe_op op_add (pe_op op_mod (pv 2) pe_int) (pe_op op_mul pe_int (pv 1))) pe_int) pe_int) pe_int))
      (pss_one (ps_ret (pe_op op_add (pe_op op_mul (pe_op op_fdivW (pv 2) pe_int) pe_int) (pe_op op_mod (pe_op op_add (pe_op op_mul (pv 3) pe_int) (pe_op op_mul pe_int (pv 1))) pe_int))))))), ?_⟩
    refine ⟨_, rfl, a, _, rfl, .inl hq, _, _, rfl, rfl, _, rfl, ?_⟩
    refine ite2 (fun h => ?_) (fun h => ?_)
    · have h : (0 : Int) < ((ns.map V.int).length : Int) := of_decide_eq_true h
      obtain ⟨v, hv, e⟩ := atI_in (xs := ns.map V.int) (i := k % ((ns.map V.int).length : Int)) (Int.emod_nonneg _ (by omega)) (Int.emod_lt_of_pos _ h)
      obtain ⟨z, _, rfl⟩ := List.mem_map.mp hv
      refine ⟨_, rfl, _, rfl, _, rfl, a, _, rfl, .inl hq, _, _, rfl, rfl, h, a, _, _, _, rfl, rfl, hq, e, ?_⟩
      refine ⟨_, rfl, _, _, rfl, rfl, (by show (0 : Int) < _; decide), _, rfl, _, _, rfl, rfl, .inl (by decide), _, _, rfl, rfl, _, _, rfl, rfl, _, _, rfl, rfl, .inr (by decide), _, _, rfl, rfl, (by show (0 : Int) < _; decide), ?_⟩
      exact ⟨_, rfl, _, _, rfl, rfl, ⟨by decide, by decide⟩, _, _, rfl, rfl, .inr (by decide), _, rfl, _, _, rfl, rfl, .inr (by decide), _, rfl, _, _, rfl, rfl, .inl (by decide), _, _, rfl, rfl, _, _, rfl, rfl, (by show (0 : Int) < _; decide), _, _, rfl, rfl, q _⟩
    · refine ⟨_, rfl, _, _, rfl, rfl, (by show (0 : Int) < _; decide), _, rfl, _, _, rfl, rfl, .inl (by decide), _, _, rfl, rfl, _, _, rfl, rfl, _, _, rfl, rfl, .inr (by decide), _, _, rfl, rfl, (by show (0 : Int) < _; decide), ?_⟩
      exact ⟨_, rfl, _, _, rfl, rfl, ⟨by decide, by decide⟩, _, _, rfl, rfl, .inr (by decide), _, rfl, _, _, rfl, rfl, .inr (by decide), _, rfl, _, _, rfl, rfl, .inl (by decide), _, _, rfl, rfl, _, _, rfl, rfl, (by show (0 : Int) < _; decide), _, _, rfl, rfl, q _⟩
theorem sc_end : FnScope ["_law_number", "_law_rooms"] ["_law_number", "_law_rooms"] (defScope (top 18)) := ⟨rfl, rfl, rfl, by decide +kernel, rfl, by decide +kernel, by decide +kernel⟩
theorem ok_end (T : Txt K mg) (D : DefAt K mg "_law_end" (top 18) ["_law_number", "_law_rooms"]) : Calls P w K mg base CX0 1 "_law_end" ["_law_number", "_law_rooms"] spEnd := by
  refine D.ok sc_end (fun vs H Q E h => ?_) (fun f cdv A outer s H vs Q E hr h => ?_)
  · obtain ⟨c, many, rfl, _⟩ := h; rfl
  · obtain ⟨c, many, rfl, hm, q⟩ := h
    refine ⟨_, (pss_cons (ps_if (pt_cmpR op_eq (pe_op op_mod (pv 0) pe_int) pe_int (nomark _)) (pss_one (ps_ret (pe_ix ix_list (pe_lst (pa_cons pe_str (pa_cons pe_str pa_nil))) (pe_op op_mod (pe_op op_fdiv (pv 0) pe_int) pe_int) (fun _ _ => rfl)))) pss_nil)
      (pss_one (ps_ret (pe_op op_mod (pe_op op_fdiv (pv 0) pe_int) (pv 1))))), ?_⟩
    refine ⟨_, rfl, _, _, rfl, rfl, (by show (0 : Int) < _; decide), rfl, _, rfl, ?_⟩
    refine ite2 (fun h => ?_) (fun h => ?_)
    · refine ⟨by show 2 ≤ sizeLine; decide, fun p hp => ⟨_, rfl, _, _, rfl, rfl, ⟨by decide, by decide⟩, _, _, rfl, rfl, (by show (0 : Int) < _; decide), ?_⟩⟩
      obtain ⟨v, hv, e⟩ := atI_in (xs := [V.str "by", V.str "out"]) (i := c / 3 % 2) (Int.emod_nonneg _ (by decide)) (Int.emod_lt_of_pos _ (by decide))
      refine ⟨p, _, _, v, rfl, rfl, .inl (.inl upd_same), e, ?_⟩
      rcases List.mem_cons.mp hv with rfl | hv
      · exact q (.w "by") _ (.inl rfl) (Same.upd hp)
      · obtain rfl := List.mem_singleton.mp hv
        exact q (.w "out") _ (.inr rfl) (Same.upd hp)
    · exact ⟨_, rfl, _, _, rfl, rfl, ⟨by decide, by decide⟩, _, rfl, _, _, rfl, rfl, hm, q (.n (c / 3 % many)) H ⟨Int.emod_nonneg _ (by omega), Int.emod_lt_of_pos _ hm⟩ (Same.refl H)⟩
theorem sc_drow : FnScope ["_law_number", "_law_rooms", "_law_signs", "_law_left", "_law_cells", "_law_k", "_law_ends"] ["_law_number", "_law_rooms", "_law_signs"] (defScope (top 19)) := ⟨rfl, rfl, rfl, by decide +kernel, rfl, by decide +kernel, by decide +kernel⟩
/-- two ends: numbers or words -/
theorem ok_drow (T : Txt K mg) (D : DefAt K mg "_law_digit_row" (top 19) ["_law_number", "_law_rooms", "_law_signs"]) : Calls P w K mg base CX0 1 "_law_digit_row" ["_law_number", "_law_rooms", "_law_signs"] (spLRow K) := by
  refine D.ok sc_drow (fun vs H Q E h => ?_) (fun f cdv A outer s H vs Q E hr h => ?_)
  · obtain ⟨c, many, sg, rfl, _⟩ := h; rfl
  · obtain ⟨c, many, sg, rfl, hm0, hm1, hs1, q⟩ := h
    have nd := sc_drow.nd
    refine ⟨_, (pss_cons (ps_set (i := 3) nd rfl (Or.inl rfl) (pe_op op_mod (pv 0) (pe_op op_add (pv 1) pe_int)))
      (pss_cons (ps_set (i := 0) nd rfl (Or.inl rfl) (pe_op op_fdiv (pv 0) (pe_op op_add (pv 1) pe_int)))
      (pss_cons (ps_set (i := 4) nd rfl (Or.inl rfl) (pe_lst pa_nil))
      (pss_cons (ps_for PassesOwn.never rfl (pi_range1 rfl T.b_range (pa_cons (pv 2) pa_nil)) (pg_name (i := 5) nd rfl (Or.inl rfl))
      (pss_cons (ps_expr (pe_bm PySem.F.plainAttrs_list PySem.F.slot_list_append PySem.F.type_list_append mt_append (pv 4) (pa_cons (pe_tup (pa_cons (pe_op op_mod (pe_op op_fdiv (pv 0) pe_int) (pv 1)) (pa_cons (pe_op op_sub pe_int (pe_op op_mul (pe_op op_mod (pv 0) pe_int) pe_int)) pa_nil))) pa_nil)))
      (pss_one (ps_set (i := 0) nd rfl (Or.inl rfl) (pe_op op_fdiv (pv 0) (pe_op op_mul pe_int (pv 1)))))))
      (pss_cons (ps_set (i := 6) nd rfl (Or.inl rfl) (pe_lst (pa_cons (pv 3) (pa_cons (pe_op op_mod (pv 0) (pe_op op_add (pv 1) pe_int)) pa_nil))))
      (pss_cons (ps_setComp (i := 6) nd rfl (Or.inl rfl) (by rfl) (N := ["_law_end_here", "_law_rooms"]) (js := [none, some 1]) rfl (.own (.cap rfl (.inl rfl) (.inl rfl) .nil)) (by rfl) (pi_list (pv 6)))
      (pss_one (ps_ret (pe_tup (pa_cons (pe_ix ix_list (pv 6) pe_int (fun _ _ => rfl)) (pa_cons (pe_callTy call_tuple_of rfl T.b_tuple PyProof.Rows.boot_tuple (pa_cons (pv 4) pa_nil)) (pa_cons (pe_ix ix_list (pv 6) pe_int (fun _ _ => rfl)) pa_nil)))))))))))), ?_⟩
    refine ⟨_, rfl, _, rfl, _, _, rfl, rfl, _, _, rfl, rfl, (by show (0 : Int) < _; omega), ?_⟩
    refine ⟨_, rfl, _, rfl, _, _, rfl, rfl, _, _, rfl, rfl, ⟨by omega, by omega⟩, ?_⟩
    have hL : 0 ≤ c % (many + 2) ∧ c % (many + 2) < many + 2 := ⟨Int.emod_nonneg _ (by omega), Int.emod_lt_of_pos _ (by omega)⟩
    dsimp only
    generalize (c / (many + 2)) = c1
    generalize (c % (many + 2)) = lft at hL ⊢
    refine ⟨Nat.zero_le _, fun p hp => ⟨_, rfl, (sg : Int), rfl, by omega, by omega, ?_⟩⟩
    refine for_range (fun i σ H' => Same H H' ∧ (∃ (xs : List V) (cs : List (Int × Int)), H' p = some (.lst xs) ∧ xs.length = i ∧ DatVs K H' xs (cs.map cellD) ∧ ∀ z ∈ cs, cellGood many z) ∧ ∃ c u5 u6, σ = [some (.int c), some (.int many), some (.int sg), some (.int lft), some (.ref p), u5, u6]) ⟨Same.upd hp, ⟨[], [], upd_same, rfl, .nil, fun z hz => by simp at hz⟩, _, _, _, rfl⟩ (fun i σ H' hi w => ?_) (fun σ H' w => ?_)
    · obtain ⟨sm, ⟨xs, cs, hpx, hl, hd, hcg⟩, c2, u5, u6, rfl⟩ := w
      refine ⟨_, rfl, .inl ⟨rfl, _, .inl (.inl hpx)⟩, _, rfl, _, _, rfl, rfl, ⟨by decide, by decide⟩, _, rfl, _, _, rfl, rfl, hm0, _, rfl, _, _, rfl, rfl, (by show (0 : Int) < _; decide), _, _, rfl, rfl, .inr (by decide), _, _, rfl, rfl, by show 2 ≤ sizeLine; decide, fun t ht => ?_⟩
      have nt : p ≠ t := ne_of_none hpx ht
      dsimp only
      have hg : cellGood many (c2 / 2 % many, 1 - c2 % 2 * 2) := ⟨Int.emod_nonneg _ (by omega), Int.emod_lt_of_pos _ hm0, by show 1 - c2 % 2 * 2 = 1 ∨ 1 - c2 % 2 * 2 = -1; omega⟩
      generalize ha : (c2 / 2 % many) = za at hg ⊢
      generalize hb : (1 - c2 % 2 * 2) = zb at hg ⊢
      have hpx2 : upd H' t (.tup [V.int za, V.int zb]) p = some (.lst xs) := by rw [upd_ne nt]; exact hpx
      refine ⟨p, _, _, rfl, rfl, hpx2, by rw [hl]; exact Nat.lt_of_lt_of_le (show i < 101 by omega) (by decide), ?_⟩
      have d1 : DatVs K (upd H' t (.tup [V.int za, V.int zb])) (xs ++ [.ref t]) ((cs ++ [(za, zb)]).map cellD) := by
        rw [List.map_append]
        exact DatVs.append (hd.same (Same.upd ht)) (.cons (.tup (.inl (.inl upd_same)) (.cons (.int _) (.cons (.int _) .nil))) .nil)
      refine ⟨_, rfl, _, rfl, _, _, rfl, rfl, .inl (by decide), _, _, rfl, rfl, ⟨by omega, by omega⟩, ?_⟩
      refine ⟨(sm.trans (Same.upd ht)).updN hp, ⟨_, _, upd_same, by rw [List.length_append, hl]; rfl, DatVs.change hpx2 d1 fun d hd => ?_, fun z hz => ?_⟩, _, _, _, rfl⟩
      · obtain ⟨z, _, rfl⟩ := List.mem_map.mp hd
        exact noL_cell z
      · rcases List.mem_append.mp hz with y | y
        · exact hcg z y
        · rw [List.mem_singleton.mp y]; exact hg
    · obtain ⟨sm, ⟨xs, cs, hpx, hl, hd, hcg⟩, c2, u5, u6, rfl⟩ := w
      refine ⟨_, rfl, _, rfl, _, rfl, _, _, rfl, rfl, _, _, rfl, rfl, (by show (0 : Int) < _; omega), by show 2 ≤ sizeLine; decide, fun l hl2 => ?_⟩
      have hR : 0 ≤ c2 % (many + 2) ∧ c2 % (many + 2) < many + 2 := ⟨Int.emod_nonneg _ (by omega), Int.emod_lt_of_pos _ (by omega)⟩
      dsimp only
      generalize (c2 % (many + 2)) = rgt at hR ⊢
      have gl := Same.upd (o := .lst [V.int lft, V.int rgt]) hl2
      have hl' := upd_at (o := .lst [V.int lft, V.int rgt]) hl2
      generalize upd H' l (.lst [V.int lft, V.int rgt]) = G at gl hl' ⊢
      refine ⟨_, rfl, l, rfl, ⟨_, .inl (.inl hl')⟩, ?_⟩
      refine comp_list (K := K) (xs := [V.int lft, V.int rgt]) (fun i ys H2 => Same G H2 ∧ ∃ ts : List Tn, ys = ts.map Tn.v ∧ ts.length = i ∧ ∀ t ∈ ts, t.good many) (by show 2 ≤ sizeLine; decide) ⟨Same.refl G, [], rfl, rfl, fun t ht => by simp at ht⟩ (fun i ys H2 hi w => ⟨by obtain ⟨_, ts, rfl, hl, _⟩ := w; rw [List.length_map, hl]; exact Nat.le_refl _, .inl (.inl (w.1 _ _ hl'))⟩) (fun i x ys H2 hx w => ?_) (fun ys H2 w p2 hp2 => ?_)
      · obtain ⟨sm2, ts, rfl, hlt, hok⟩ := w
        obtain ⟨e, rfl, he0, he1⟩ : ∃ e : Int, x = V.int e ∧ 0 ≤ e ∧ e < many + 2 := by
          have := List.mem_of_getElem? hx
          rcases List.mem_cons.mp this with z | z
          · exact ⟨_, z, hL⟩
          · exact ⟨_, List.mem_singleton.mp z, hR⟩
        refine fun cl C s H0 fp => ⟨_, _, _, (pg_name (i := 0) (show (["_law_end_here", "_law_rooms"] : List Str).Nodup by decide +kernel) rfl (Or.inl rfl)), pif_nil, (pe_ifExp (pt_cmpR op_ge (pv 0) (pv 1) (nomark _)) (pe_ix ix_list (pe_lst (pa_cons pe_str (pa_cons pe_str pa_nil))) (pe_op op_sub (pv 0) (pv 1)) (fun _ _ => rfl)) (pv 0)), fun σ0 ks => ?_⟩
        obtain ⟨u, ρ, rfl, ks1⟩ := KeepsV.own_of (τ := [some (.int many)]) ks
        obtain ⟨ρ', rfl, ks2⟩ := KeepsV.cap_of ks1
        obtain rfl := ks2.nil_of
        have fin : ∀ (t : Tn) H3, t.good many → Same H2 H3 → Same G H3 ∧ ∃ ts' : List Tn, (ts.map Tn.v ++ [t.v]) = ts'.map Tn.v ∧ ts'.length = i + 1 ∧ ∀ t ∈ ts', t.good many := fun t H3 ht sm3 => by
          refine ⟨sm2.trans sm3, ts ++ [t], by rw [List.map_append]; rfl, by rw [List.length_append, hlt]; rfl, fun y hy => ?_⟩
          rcases List.mem_append.mp hy with z | z
          · exact hok y z
          · rw [List.mem_singleton.mp z]; exact ht
        refine ⟨.own (.cap .nil), _, rfl, _, rfl, _, _, rfl, rfl, _, rfl, ?_⟩
        refine ite2 (fun h => ?_) (fun h => ?_)
        · have h : many ≤ e := of_decide_eq_true h
          refine ⟨by show 2 ≤ sizeLine; decide, fun p3 hp3 => ⟨_, rfl, _, rfl, _, _, rfl, rfl, ?_⟩⟩
          obtain ⟨v, hv, e2⟩ := atI_in (xs := [V.str "by", V.str "out"]) (i := e - many) (by omega) (by show e - many < 2; omega)
          refine ⟨p3, _, _, v, rfl, rfl, .inl (.inl upd_same), e2, ?_⟩
          rcases List.mem_cons.mp hv with rfl | hv
          · exact fin (.w "by") _ (.inl rfl) (Same.upd hp3)
          · obtain rfl := List.mem_singleton.mp hv
            exact fin (.w "out") _ (.inr rfl) (Same.upd hp3)
        · have h : ¬ many ≤ e := fun z => h (decide_eq_true z)
          exact ⟨_, rfl, fin (.n e) _ ⟨he0, by omega⟩ (Same.refl _)⟩
      · obtain ⟨sm2, ts, rfl, hlt, hok⟩ := w
        obtain ⟨tl, tr, rfl⟩ : ∃ tl tr, ts = [tl, tr] := by
          match ts, (show ts.length = 2 from hlt) with
          | [tl, tr], _ => exact ⟨tl, tr, rfl⟩
        have g2 := Same.upd (o := .lst ([tl, tr].map Tn.v)) hp2
        have hp2' := upd_at (o := .lst ([tl, tr].map Tn.v)) hp2
        generalize upd H2 p2 (.lst ([tl, tr].map Tn.v)) = G2 at g2 hp2' ⊢
        have sG := gl.trans (sm2.trans g2)
        refine ⟨_, rfl, p2, _, 0, _, rfl, rfl, .inl (.inl hp2'), atI_nat (j := 0) rfl, ?_⟩
        refine ⟨_, rfl, p, xs, rfl, .inl ⟨.inl (.inl (sG _ _ hpx)), fun t ht => ?_⟩⟩
        have g3 := Same.upd (o := .tup xs) ht
        have ht' := upd_at (o := .tup xs) ht
        generalize upd G2 t (.tup xs) = G3 at g3 ht' ⊢
        refine ⟨_, rfl, p2, _, 1, _, rfl, rfl, .inl (.inl (g3 _ _ hp2')), atI_nat (j := 1) rfl, by show 3 ≤ sizeLine; decide, fun t2 ht2 => ?_⟩
        have g4 := Same.upd (o := .tup [tl.v, .ref t, tr.v]) ht2
        have sF := sG.trans (g3.trans g4)
        refine q _ ⟨tl, cs, tr⟩ _ (sm.trans sF) (.tup (.inl (.inl upd_same)) (.cons (tn_dat _ tl) (.cons (.tup (xs := xs) (.inl (.inl (g4 _ _ ht'))) (hd.same sF)) (.cons (tn_dat _ tr) .nil)))) ⟨hok tl (by simp), hok tr (by simp), hcg⟩ ?_
        have := hd.length
        rw [List.length_map] at this
        show cs.length = sg
        omega
theorem sc_mrow : FnScope ["_law_number", "_law_rooms", "_law_signs", "_law_pieces", "_law_k", "_law_cells"] ["_law_number", "_law_rooms", "_law_signs"] (defScope (top 20)) := ⟨rfl, rfl, rfl, by decide +kernel, rfl, by decide +kernel, by decide +kernel⟩
theorem ok_mrow (T : Txt K mg) (D : DefAt K mg "_law_mixed_row" (top 20) ["_law_number", "_law_rooms", "_law_signs"]) (C1 : Calls P w K mg base CX0 1 "_law_end" ["_law_number", "_law_rooms"] spEnd) : Calls P w K mg base CX0 2 "_law_mixed_row" ["_law_number", "_law_rooms", "_law_signs"] (spLRow K) := by
  refine D.ok sc_mrow (fun vs H Q E h => ?_) (fun f cdv A outer s H vs Q E hr h => ?_)
  · obtain ⟨c, many, sg, rfl, _⟩ := h; rfl
  · obtain ⟨c, many, sg, rfl, hm0, hm1, hs1, q⟩ := h
    have nd := sc_mrow.nd
    refine ⟨_, (pss_cons (ps_set (i := 3) nd rfl (Or.inl rfl) (pe_lst pa_nil))
      (pss_cons (ps_for PassesOwn.never rfl (pi_range1 rfl T.b_range (pa_cons (pe_op op_add (pv 2) pe_int) pa_nil)) (pg_name (i := 4) nd rfl (Or.inl rfl))
      (pss_cons (ps_set (i := 0) nd rfl (Or.inl rfl) (pe_op op_mod (pe_op op_add (pe_op op_mul (pv 0) pe_int) pe_int) pe_int))
      (pss_one (ps_expr (pe_bm PySem.F.plainAttrs_list PySem.F.slot_list_append PySem.F.type_list_append mt_append (pv 3) (pa_cons (pe_op op_fdiv (pv 0) pe_int) pa_nil))))))
      (pss_cons (ps_set (i := 5) nd rfl (Or.inl rfl) (pe_callTy call_tuple_of rfl T.b_tuple PyProof.Rows.boot_tuple (pa_cons (pe_comp (N := ["_law_piece", "_law_rooms"]) (js := [none, some 1]) rfl (.own (.cap rfl (.inl rfl) (.inl rfl) .nil)) (by rfl) (pi_list (pe_slice sl_list (pv 3) (po_some pe_int) po_none))) pa_nil)))
      (pss_one (ps_ret (pe_tup (pa_cons (pe_fn C1 (hr.mono (by decide)) rfl pass0 (pa_cons (pe_ix ix_list (pv 3) pe_int (fun _ _ => rfl)) (pa_cons (pv 1) pa_nil))) (pa_cons (pv 5) (pa_cons (pe_fn C1 (hr.mono (by decide)) rfl pass0 (pa_cons (pe_ix ix_list (pv 3) pe_int (fun _ _ => rfl)) (pa_cons (pv 1) pa_nil))) pa_nil))))))))), ?_⟩
    refine ⟨Nat.zero_le _, fun p hp => ?_⟩
    refine ⟨_, rfl, _, _, rfl, rfl, _, rfl, by omega, by omega, ?_⟩
    refine for_range (n := ((sg : Int) + 2).toNat) (fun i σ H' => Same H H' ∧ (∃ ms : List Int, ms.length = i ∧ H' p = some (.lst (ms.map V.int))) ∧ ∃ c u4 u5, σ = [some (.int c), some (.int many), some (.int sg), some (.ref p), u4, u5]) ⟨Same.upd hp, ⟨[], rfl, upd_same⟩, _, _, _, rfl⟩ (fun i σ H' hi w => ?_) (fun σ H' w => ?_)
    · obtain ⟨sm, ⟨ms, hl, hpm⟩, c2, u4, u5, rfl⟩ := w
      refine ⟨_, rfl, _, _, rfl, rfl, .inr (by decide), _, _, rfl, rfl, _, _, rfl, rfl, (by show (0 : Int) < _; decide), ?_⟩
      dsimp only
      generalize ((c2 * 48271 + 7919) % 2147483647) = c3
      refine ⟨_, rfl, .inl ⟨rfl, _, .inl (.inl hpm)⟩, _, rfl, _, _, rfl, rfl, ⟨by decide, by decide⟩, p, _, _, rfl, rfl, hpm, ?_, ?_⟩
      · rw [List.length_map, hl]; exact Nat.lt_of_lt_of_le (show i < 101 by omega) (by decide)
      · exact ⟨sm.updN hp, ⟨ms ++ [c3 / 64], by rw [List.length_append, hl]; rfl, by rw [upd_same, List.map_append]; rfl⟩, _, _, _, rfl⟩
    · obtain ⟨sm, ⟨ms, hl, hpm⟩, c2, u4, u5, rfl⟩ := w
      have hl : ms.length = sg + 2 := by omega
      obtain ⟨ks, hks, hkl⟩ := cut2_ints ms
      refine ⟨_, rfl, _, rfl, p, _, rfl, .inl (.inl hpm), fun l hl2 => ?_⟩
      rw [hks]
      have gl := Same.upd (o := .lst (ks.map V.int)) hl2
      have hl' := upd_at (o := .lst (ks.map V.int)) hl2
      generalize upd H' l (.lst (ks.map V.int)) = G at gl hl' ⊢
      refine ⟨l, rfl, ⟨_, .inl (.inl hl')⟩, ?_⟩
      refine comp_list (K := K) (xs := ks.map V.int) (fun i ys H2 => Same G H2 ∧ ∃ cs : List (Int × Int), ys.length = i ∧ cs.length = i ∧ DatVs K H2 ys (cs.map cellD) ∧ ∀ z ∈ cs, cellGood many z) (by rw [List.length_map]; exact Nat.le_trans (show ks.length ≤ 3 by omega) (by decide)) ⟨Same.refl G, [], rfl, rfl, .nil, fun z hz => by simp at hz⟩ (fun i ys H2 hi w => ⟨by obtain ⟨_, cs, h1, _⟩ := w; exact Nat.le_of_eq h1, .inl (.inl (w.1 _ _ hl'))⟩) (fun i x ys H2 hx w => ?_) (fun ys H2 w p2 hp2 => ?_)
      · obtain ⟨sm2, cs, hy, hc, hd, hcg⟩ := w
        obtain ⟨e, rfl⟩ : ∃ e : Int, x = V.int e := by
          obtain ⟨e, _, rfl⟩ := List.mem_map.mp (List.mem_of_getElem? hx)
          exact ⟨e, rfl⟩
        refine fun cl C s H0 fp => ⟨_, _, _, (pg_name (i := 0) (show (["_law_piece", "_law_rooms"] : List Str).Nodup by decide +kernel) rfl (Or.inl rfl)), pif_nil, (pe_tup (pa_cons (pe_op op_mod (pv 0) (pv 1)) (pa_cons (pe_op op_sub pe_int (pe_op op_mul (pe_op op_fdiv (pe_op op_mod (pe_op op_fdiv (pv 0) pe_int) pe_int) pe_int) pe_int)) pa_nil))), fun σ0 ks => ?_⟩
        obtain ⟨u, ρ, rfl, ks1⟩ := KeepsV.own_of (τ := [some (.int many)]) ks
        obtain ⟨ρ', rfl, ks2⟩ := KeepsV.cap_of ks1
        obtain rfl := ks2.nil_of
        refine ⟨.own (.cap .nil), _, rfl, _, rfl, _, _, rfl, rfl, hm0, _, rfl, _, _, rfl, rfl, ⟨by decide, by decide⟩, _, _, rfl, rfl, (by show (0 : Int) < _; decide), _, _, rfl, rfl, ⟨by decide, by decide⟩, _, _, rfl, rfl, .inr (by decide), _, _, rfl, rfl, by show 2 ≤ sizeLine; decide, fun t ht => ?_⟩
        refine ⟨sm2.trans (Same.upd ht), cs ++ [(e % many, 1 - e / 64 % 3 / 2 * 2)], by rw [List.length_append, hy]; rfl, by rw [List.length_append, hc]; rfl, ?_, fun z hz => ?_⟩
        · rw [List.map_append]
          exact DatVs.append (hd.same (Same.upd ht)) (.cons (.tup (.inl (.inl upd_same)) (.cons (.int _) (.cons (.int _) .nil))) .nil)
        · rcases List.mem_append.mp hz with y | y
          · exact hcg z y
          · rw [List.mem_singleton.mp y]
            exact ⟨Int.emod_nonneg _ (by omega), Int.emod_lt_of_pos _ hm0, by show 1 - e / 64 % 3 / 2 * 2 = 1 ∨ 1 - e / 64 % 3 / 2 * 2 = -1; omega⟩
      · obtain ⟨sm2, cs, hy, hc, hd, hcg⟩ := w
        refine ⟨p2, ys, rfl, .inl ⟨.inl (.inl upd_same), fun t ht => ?_⟩⟩
        have g2 := (Same.upd (o := .lst ys) hp2).trans (Same.upd (o := .tup ys) ht)
        have ht' := upd_at (o := .tup ys) ht
        generalize upd (upd H2 p2 (.lst ys)) t (.tup ys) = G2 at g2 ht' ⊢
        have sG := gl.trans (sm2.trans g2)
        obtain ⟨z0, e0⟩ := ints_at (ns := ms) (i := 0) (by decide) (by omega)
        obtain ⟨z1, e1⟩ := ints_at (ns := ms) (i := 1) (by decide) (by omega)
        refine ⟨_, rfl, p, _, _, _, rfl, rfl, .inl (.inl (sG _ _ hpm)), e0, _, rfl, z0, many, rfl, hm0, fun tl H3 htl sm3 => ?_⟩
        refine ⟨_, rfl, _, rfl, p, _, _, _, rfl, rfl, .inl (.inl (sm3 _ _ (sG _ _ hpm))), e1, _, rfl, z1, many, rfl, hm0, fun tr H4 htr sm4 => ?_⟩
        refine ⟨by show 3 ≤ sizeLine; decide, fun t2 ht2 => ?_⟩
        have g5 := sm3.trans (sm4.trans (Same.upd (o := .tup [tl.v, .ref t, tr.v]) ht2))
        refine q _ ⟨tl, cs, tr⟩ _ (sm.trans (sG.trans g5)) (.tup (.inl (.inl upd_same)) (.cons (tn_dat _ tl) (.cons (.tup (xs := ys) (.inl (.inl (g5 _ _ ht'))) (hd.same (g2.trans g5))) (.cons (tn_dat _ tr) .nil)))) ⟨htl, htr, hcg⟩ ?_
        show cs.length = sg
        rw [hc, List.length_map]
        omega
theorem sc_lmach : FnScope ["_law_script", "_law_at_here", "_law_rooms", "_law_signs", "_law_rows", "_law_room", "_law_row"] ["_law_script", "_law_at_here", "_law_rooms", "_law_signs"] (defScope (top 21)) := ⟨rfl, rfl, rfl, by decide +kernel, rfl, by decide +kernel, by decide +kernel⟩
theorem ok_lmach (T : Txt K mg) (D : DefAt K mg "_law_machine" (top 21) ["_law_script", "_law_at_here", "_law_rooms", "_law_signs"]) (C1 : Calls P w K mg base CX0 1 "_law_digit_row" ["_law_number", "_law_rooms", "_law_signs"] (spLRow K))
    (C2 : Calls P w K mg base CX0 2 "_law_mixed_row" ["_law_number", "_law_rooms", "_law_signs"] (spLRow K)) (C3 : Calls P w K mg base CX0 1 "_law_cell" ["_law_script", "_law_k"] (spLCell K)) : Calls P w K mg base CX0 3 "_law_machine" ["_law_script", "_law_at_here", "_law_rooms", "_law_signs"] (spLMach K) := by
  refine D.ok sc_lmach (fun vs H Q E h => ?_) (fun f cdv A outer s H vs Q E hr h => ?_)
  · obtain ⟨a, ns, at_, many, sg, rfl, _⟩ := h; rfl
  · obtain ⟨a, ns, at_, many, sg, rfl, hq, hat, hm0, hm1, hs1, q⟩ := h
    have nd := sc_lmach.nd
    refine ⟨_, (pss_cons (ps_set (i := 4) nd rfl (Or.inl rfl) (pe_lst pa_nil))
      (pss_cons (ps_for PassesOwn.never rfl (pi_range1 rfl T.b_range (pa_cons (pv 2) pa_nil)) (pg_name (i := 5) nd rfl (Or.inl rfl))
      (pss_one (ps_if (PW.pt (pw_and (pt_cmpR op_lt (pe_op op_add (pv 1) (pv 5)) (pe_callB call_len_seq rfl T.b_len PySem.boot_len (pa_cons (pv 0) pa_nil)) (nomark _)) (pw_and1 (pt_cmpR op_eq (pe_op op_mod (pe_ix ix_list (pv 0) pe_int (fun _ _ => rfl)) pe_int) pe_int (nomark _))))) (pss_one (ps_expr (pe_bm PySem.F.plainAttrs_list PySem.F.slot_list_append PySem.F.type_list_append mt_append (pv 4) (pa_cons (pe_fn C1 (hr.mono (by decide)) rfl pass0 (pa_cons (pe_ix ix_list (pv 0) (pe_op op_add (pv 1) (pv 5)) (fun _ _ => rfl)) (pa_cons (pv 2) (pa_cons (pv 3) pa_nil)))) pa_nil)))) (pss_cons (ps_set (i := 6) nd rfl (Or.inl rfl) (pe_fn C2 (hr.mono (by decide)) rfl pass0 (pa_cons (pe_op op_mod (pe_fn C3 (hr.mono (by decide)) rfl pass0 (pa_cons (pv 0) (pa_cons (pe_op op_add (pv 1) (pv 5)) pa_nil))) pe_int) (pa_cons (pv 2) (pa_cons (pv 3) pa_nil)))))
      (pss_cons (ps_if (PW.pt (pw_and (pt_cmpR op_eq (pv 5) pe_int (nomark _)) (pw_and (pt_val (pe_callB call_isinst rfl T.b_isinstance PyProof.Rows.boot_isinstance (pa_cons (pe_ix ix_tup (pv 6) pe_int (fun _ _ => rfl)) (pa_cons (pe_bltn (v := .ty "str") rfl T.b_str PyProof.Rows.boot_str rfl) pa_nil)))) (pw_and1 (pt_cmpR op_gt (pe_op op_mod (pe_op op_fdiv (pe_fn C3 (hr.mono (by decide)) rfl pass0 (pa_cons (pv 0) (pa_cons (pv 1) pa_nil))) pe_int) pe_int) pe_int (nomark _)))))) (pss_one (ps_set (i := 6) nd rfl (Or.inl rfl) (pe_op op_catT (pe_tup (pa_cons (pe_op op_mod (pe_op op_fdiv (pe_fn C3 (hr.mono (by decide)) rfl pass0 (pa_cons (pv 0) (pa_cons (pv 1) pa_nil))) pe_int) (pv 2)) pa_nil)) (pe_slice sl_tup (pv 6) (po_some pe_int) po_none)))) pss_nil)
      (pss_one (ps_expr (pe_bm PySem.F.plainAttrs_list PySem.F.slot_list_append PySem.F.type_list_append mt_append (pv 4) (pa_cons (pv 6) pa_nil)))))))))
      (pss_one (ps_ret (pe_callTy call_tuple_of rfl T.b_tuple PyProof.Rows.boot_tuple (pa_cons (pv 4) pa_nil)))))), ?_⟩
    refine ⟨Nat.zero_le _, fun p hp => ⟨_, rfl, many, rfl, by omega, by omega, ?_⟩⟩
    refine for_range (fun i σ H' => Same H H' ∧ (∃ (xs : List V) (rs : List Rw), H' p = some (.lst xs) ∧ xs.length = i ∧ DatVs K H' xs (rs.map rowD) ∧ ∀ r ∈ rs, r.good many ∧ r.c.length = sg) ∧ ∃ u5 u6, σ = [some (.ref a), some (.int at_), some (.int many), some (.int sg), some (.ref p), u5, u6]) ⟨Same.upd hp, ⟨[], [], upd_same, rfl, .nil, fun r hr => by simp at hr⟩, _, _, rfl⟩ (fun i σ H' hi w => ?_) (fun σ H' w => ?_)
    · obtain ⟨sm, ⟨xs, rs, hpx, hl, hd, hrs⟩, u5, u6, rfl⟩ := w
      have hq' := SqL.same sm hq
      -- a row is put behind
      have fin : ∀ (v : V) (r : Rw) (H2 : Hp) (u6 : Option V), Same H' H2 → DatV K H2 v (rowD r) → r.good many → r.c.length = sg → rAppend (.ref p) [v] H2 (fun _ H3 => Same H H3 ∧ (∃ (xs : List V) (rs : List Rw), H3 p = some (.lst xs) ∧ xs.length = i + 1 ∧ DatVs K H3 xs (rs.map rowD) ∧ ∀ r ∈ rs, r.good many ∧ r.c.length = sg) ∧ ∃ w5 w6, ([some (.ref a), some (.int at_), some (.int many), some (.int sg), some (.ref p), some (.int (0 + (i : Int))), u6] : L2.St) = [some (.ref a), some (.int at_), some (.int many), some (.int sg), some (.ref p), w5, w6]) := fun v r H2 u6 sm2 hv hrk hrl => by
        have hpx2 := sm2 _ _ hpx
        refine ⟨p, _, _, rfl, rfl, hpx2, by rw [hl]; exact Nat.lt_of_lt_of_le (show i < 1001 by omega) (by decide), ?_⟩
        have d1 : DatVs K H2 (xs ++ [v]) ((rs ++ [r]).map rowD) := by
          rw [List.map_append]
          exact DatVs.append (hd.same sm2) (.cons hv .nil)
        refine ⟨(sm.trans sm2).updN hp, ⟨_, _, upd_same, by rw [List.length_append, hl]; rfl, DatVs.change hpx2 d1 fun d hd => ?_, fun z hz => ?_⟩, _, _, rfl⟩
        · obtain ⟨z, _, rfl⟩ := List.mem_map.mp hd
          exact noL_row z
        · rcases List.mem_append.mp hz with z1 | z1
          · exact hrs z z1
          · rw [List.mem_singleton.mp z1]; exact ⟨hrk, hrl⟩
      refine ⟨_, rfl, _, rfl, _, _, rfl, rfl, _, rfl, a, _, rfl, .inl hq', _, _, rfl, rfl, _, rfl, ?_⟩
      refine ite2 (fun h => ?_) (fun h => iteF ?_)
      · have h : at_ + (0 + (i : Int)) < ((ns.map V.int).length : Int) := of_decide_eq_true h
        obtain ⟨z0, e0⟩ := ints_at (ns := ns) (i := 0) (by decide) (by rw [List.length_map] at h; omega)
        refine ⟨_, rfl, a, _, _, _, rfl, rfl, hq', e0, _, _, rfl, rfl, (by show (0 : Int) < _; decide), rfl, _, rfl, ?_⟩
        refine ite2 (fun h2 => ?_) (fun h2 => ?_)
        · obtain ⟨z1, e1⟩ := ints_at (ns := ns) (i := at_ + (0 + (i : Int))) (by omega) (by rw [List.length_map] at h; omega)
          refine ⟨_, rfl, .inl ⟨rfl, _, .inl (.inl hpx)⟩, _, rfl, _, rfl, _, rfl, _, _, rfl, rfl, a, _, _, _, rfl, rfl, hq', e1, _, rfl, _, rfl, z1, many, sg, rfl, hm0, hm1, hs1, fun v r H2 sm2 hv hrk hrl => ?_⟩
          exact fin v r H2 _ sm2 hv hrk hrl
        · refine ⟨_, rfl, _, rfl, _, rfl, _, _, rfl, rfl, a, ns, _, rfl, hq', fun c => ?_⟩
          refine ⟨_, _, rfl, rfl, (by show (0 : Int) < _; decide), _, rfl, _, rfl, _, many, sg, rfl, hm0, hm1, hs1, fun v r H2 sm2 hv hrk hrl => ?_⟩
          obtain ⟨t, b, rfl, ht, hb⟩ := rowD_parts hv
          have hq2 := SqL.same sm2 hq'
          refine ⟨_, rfl, rfl, _, rfl, ?_⟩
          refine ite2 (fun h3 => ?a1) (fun h3 => iteF ?a2)
          case a2 => exact ⟨_, rfl, .inl ⟨rfl, _, .inl (.inl (sm2 _ _ hpx))⟩, _, rfl, fin _ r H2 _ sm2 hv hrk hrl⟩
          refine ⟨_, rfl, t, _, _, _, rfl, rfl, ht, atI_nat (j := 0) rfl, ?_⟩
          have ty : ∃ tv bb, TyX K H2 r.l.v tv ∧ PySem.W.kitOne K tv (.type "str") = some bb := by
            cases r.l with
            | n k => exact ⟨_, false, .pl (.int k), rfl⟩
            | w x => exact ⟨_, true, .pl (.str x), rfl⟩
          obtain ⟨tv, bb, hty, hkit⟩ := ty
          refine ⟨_, .ty "str", tv, .type "str", bb, rfl, hty, rfl, hkit, bb, rfl, ?_⟩
          cases bb with
          | false => exact iteF (iteF ⟨_, rfl, .inl ⟨rfl, _, .inl (.inl (sm2 _ _ hpx))⟩, _, rfl, fin _ r H2 _ sm2 hv hrk hrl⟩)
          | true =>
            refine iteT ⟨_, rfl, _, rfl, a, ns, _, rfl, hq2, fun c2 => ?_⟩
            refine ⟨_, _, rfl, rfl, ⟨by decide, by decide⟩, _, _, rfl, rfl, (by show (0 : Int) < _; decide), _, _, rfl, rfl, _, rfl, ?_⟩
            refine ite2 (fun h4 => ?b1) (fun h4 => ?b2)
            case b2 => exact ⟨_, rfl, .inl ⟨rfl, _, .inl (.inl (sm2 _ _ hpx))⟩, _, rfl, fin _ r H2 _ sm2 hv hrk hrl⟩
            refine ⟨_, rfl, _, rfl, a, ns, _, rfl, hq2, fun c3 => ?_⟩
            refine ⟨_, _, rfl, rfl, ⟨by decide, by decide⟩, _, rfl, _, _, rfl, rfl, hm0, by show 1 ≤ sizeLine; decide, fun t1 ht1 => ?_⟩
            dsimp only
            have hlg : 0 ≤ c3 / 64 % many ∧ c3 / 64 % many < many := ⟨Int.emod_nonneg _ (by omega), Int.emod_lt_of_pos _ hm0⟩
            generalize (c3 / 64 % many) = lft at hlg ⊢
            have g1 := Same.upd (o := .tup [V.int lft]) ht1
            have ht1' := upd_at (o := .tup [V.int lft]) ht1
            generalize upd H2 t1 (.tup [V.int lft]) = G1 at g1 ht1' ⊢
            refine ⟨_, rfl, 1, rfl, t, _, rfl, SqT.same g1 ht, (show ¬ (HT.sIx 3 0 (some 1) = 0 ∧ HT.sIx 3 3 none = 3) by decide), fun t2 ht2 => ?_⟩
            have e2 : cutV [r.l.v, V.ref b, r.r.v] (some 1) none = [V.ref b, r.r.v] := rfl
            rw [e2]
            have g2 := Same.upd (o := .tup [V.ref b, r.r.v]) ht2
            have ht2' := upd_at (o := .tup [V.ref b, r.r.v]) ht2
            generalize upd G1 t2 (.tup [V.ref b, r.r.v]) = G2 at g2 ht2' ⊢
            refine ⟨t1, t2, _, _, rfl, rfl, .inl (.inl (g2 _ _ ht1')), .inl (.inl ht2'), by simp, by show 3 ≤ sizeLine; decide, (fun z => nomatch z), fun _ t3 ht3 => ?_⟩
            have g3 := Same.upd (o := .tup ([V.int lft] ++ [V.ref b, r.r.v])) ht3
            have g4 := g1.trans (g2.trans g3)
            have hv2 : DatV K (upd G2 t3 (.tup ([V.int lft] ++ [V.ref b, r.r.v]))) (.ref t3) (rowD ⟨.n lft, r.c, r.r⟩) := by
              exact .tup (.inl (.inl upd_same)) (.cons (.int _) (.cons (hb.same g4) (.cons (tn_dat _ _) .nil)))
            exact ⟨_, rfl, .inl ⟨rfl, _, .inl (.inl (g4 _ _ (sm2 _ _ hpx)))⟩, _, rfl, fin _ ⟨.n lft, r.c, r.r⟩ _ _ (sm2.trans g4) hv2 ⟨hlg, hrk.2⟩ hrl⟩
      · refine ⟨_, rfl, _, rfl, _, rfl, _, _, rfl, rfl, a, ns, _, rfl, hq', fun c => ?_⟩
        refine ⟨_, _, rfl, rfl, (by show (0 : Int) < _; decide), _, rfl, _, rfl, _, many, sg, rfl, hm0, hm1, hs1, fun v r H2 sm2 hv hrk hrl => ?_⟩
        obtain ⟨t, b, rfl, ht, hb⟩ := rowD_parts hv
        have hq2 := SqL.same sm2 hq'
        refine ⟨_, rfl, rfl, _, rfl, ?_⟩
        refine ite2 (fun h3 => ?c1) (fun h3 => iteF ?c2)
        case c2 => exact ⟨_, rfl, .inl ⟨rfl, _, .inl (.inl (sm2 _ _ hpx))⟩, _, rfl, fin _ r H2 _ sm2 hv hrk hrl⟩
        refine ⟨_, rfl, t, _, _, _, rfl, rfl, ht, atI_nat (j := 0) rfl, ?_⟩
        have ty : ∃ tv bb, TyX K H2 r.l.v tv ∧ PySem.W.kitOne K tv (.type "str") = some bb := by
          cases r.l with
          | n k => exact ⟨_, false, .pl (.int k), rfl⟩
          | w x => exact ⟨_, true, .pl (.str x), rfl⟩
        obtain ⟨tv, bb, hty, hkit⟩ := ty
        refine ⟨_, .ty "str", tv, .type "str", bb, rfl, hty, rfl, hkit, bb, rfl, ?_⟩
        cases bb with
        | false => exact iteF (iteF ⟨_, rfl, .inl ⟨rfl, _, .inl (.inl (sm2 _ _ hpx))⟩, _, rfl, fin _ r H2 _ sm2 hv hrk hrl⟩)
        | true =>
          refine iteT ⟨_, rfl, _, rfl, a, ns, _, rfl, hq2, fun c2 => ?_⟩
          refine ⟨_, _, rfl, rfl, ⟨by decide, by decide⟩, _, _, rfl, rfl, (by show (0 : Int) < _; decide), _, _, rfl, rfl, _, rfl, ?_⟩
          refine ite2 (fun h4 => ?d1) (fun h4 => ?d2)
          case d2 => exact ⟨_, rfl, .inl ⟨rfl, _, .inl (.inl (sm2 _ _ hpx))⟩, _, rfl, fin _ r H2 _ sm2 hv hrk hrl⟩
          refine ⟨_, rfl, _, rfl, a, ns, _, rfl, hq2, fun c3 => ?_⟩
          refine ⟨_, _, rfl, rfl, ⟨by decide, by decide⟩, _, rfl, _, _, rfl, rfl, hm0, by show 1 ≤ sizeLine; decide, fun t1 ht1 => ?_⟩
          dsimp only
          have hlg : 0 ≤ c3 / 64 % many ∧ c3 / 64 % many < many := ⟨Int.emod_nonneg _ (by omega), Int.emod_lt_of_pos _ hm0⟩
          generalize (c3 / 64 % many) = lft at hlg ⊢
          have g1 := Same.upd (o := .tup [V.int lft]) ht1
          have ht1' := upd_at (o := .tup [V.int lft]) ht1
          generalize upd H2 t1 (.tup [V.int lft]) = G1 at g1 ht1' ⊢
          refine ⟨_, rfl, 1, rfl, t, _, rfl, SqT.same g1 ht, (show ¬ (HT.sIx 3 0 (some 1) = 0 ∧ HT.sIx 3 3 none = 3) by decide), fun t2 ht2 => ?_⟩
          have e2 : cutV [r.l.v, V.ref b, r.r.v] (some 1) none = [V.ref b, r.r.v] := rfl
          rw [e2]
          have g2 := Same.upd (o := .tup [V.ref b, r.r.v]) ht2
          have ht2' := upd_at (o := .tup [V.ref b, r.r.v]) ht2
          generalize upd G1 t2 (.tup [V.ref b, r.r.v]) = G2 at g2 ht2' ⊢
          refine ⟨t1, t2, _, _, rfl, rfl, .inl (.inl (g2 _ _ ht1')), .inl (.inl ht2'), by simp, by show 3 ≤ sizeLine; decide, (fun z => nomatch z), fun _ t3 ht3 => ?_⟩
          have g3 := Same.upd (o := .tup ([V.int lft] ++ [V.ref b, r.r.v])) ht3
          have g4 := g1.trans (g2.trans g3)
          have hv2 : DatV K (upd G2 t3 (.tup ([V.int lft] ++ [V.ref b, r.r.v]))) (.ref t3) (rowD ⟨.n lft, r.c, r.r⟩) := by
            exact .tup (.inl (.inl upd_same)) (.cons (.int _) (.cons (hb.same g4) (.cons (tn_dat _ _) .nil)))
          exact ⟨_, rfl, .inl ⟨rfl, _, .inl (.inl (g4 _ _ (sm2 _ _ hpx)))⟩, _, rfl, fin _ ⟨.n lft, r.c, r.r⟩ _ _ (sm2.trans g4) hv2 ⟨hlg, hrk.2⟩ hrl⟩
    · obtain ⟨sm, ⟨xs, rs, hpx, hl, hd, hrs⟩, u5, u6, rfl⟩ := w
      refine ⟨_, rfl, p, xs, rfl, .inl ⟨.inl (.inl hpx), fun t ht => ?_⟩⟩
      have hn := hd.length
      rw [List.length_map] at hn
      exact q _ rs _ (sm.trans (Same.upd ht)) (.tup (.inl (.inl upd_same)) (hd.same (Same.upd ht))) (by omega) hrs
end
end Mc
namespace Mc
open PySem L2 PyProof.Rows
/-! ### the asker's own walk -/
def spStrip (K : PySem.W.Frag) : Sp := fun vs H Q _ => ∃ (a : Addr) (ns : List Int) (at_ : Int) (size sg : Nat), vs = [.ref a, .int at_, .int size, .int sg] ∧ SqL K H a (ns.map V.int) ∧ 0 ≤ at_ ∧ size ≤ 1000 ∧ 1 ≤ sg ∧ sg ≤ 3 ∧ ∀ (cs : List Nat) (H' : Hp), cs.length = size → (∀ c ∈ cs, isSign sg c = true) → Same H H' → Q (.str ⟨cs.toArray⟩) H'
def spStep (K : PySem.W.Frag) : Sp := fun vs H Q _ => ∃ (v : V) (z : Str) (b : Addr) (rs : List Rw) (sg : Nat) (st : Int × Int), vs = [v, .str z, .ref b] ∧ DatV K H v (machD rs) ∧ Mach rs sg ∧ Strip sg z.cps.toList ∧ SqT K H b [.int st.1, .int st.2] ∧ Valid rs z.cps.toList st ∧
  (∀ H', stepM rs z.cps.toList st = none → Same H H' → Q .non H') ∧ (∀ st' u H', stepM rs z.cps.toList st = some st' → Same H H' → SqT K H' u [.int st'.1, .int st'.2] → Q (.ref u) H')
theorem snoc_str (cs : List Nat) (c : Nat) : ((⟨cs.toArray⟩ : Str) ++ (⟨#[c]⟩ : Str)) = (⟨(cs ++ [c]).toArray⟩ : Str) := str_ext (by
  show (cs.toArray ++ #[c]).toList = _
  simp)
theorem len_str (cs : List Nat) : (⟨cs.toArray⟩ : Str).length = cs.length := by show cs.toArray.size = _; simp
theorem atI_last {α : Type} (ys : List α) (x : α) : atI (ys ++ [x]) (-1) = some x := by
  unfold atI ixN
  rw [if_neg (by decide), List.length_append]
  simp only [List.length_cons, List.length_nil]
  rw [if_pos (by omega)]
  have e : ((-1 : Int) + ((ys.length + (0 + 1) : Nat) : Int)).toNat = ys.length := by omega
  show (ys ++ [x])[((-1 : Int) + ((ys.length + (0 + 1) : Nat) : Int)).toNat]? = some x
  rw [e]; simp
section
variable {P : Program} {w : World} {K : PySem.W.Frag} {mg : Str → Option Value} {base : Heap}
theorem sc_strip : FnScope ["_law_script", "_law_at_here", "_law_size", "_law_signs", "_law_number", "_law_strip_here", "_law_k"] ["_law_script", "_law_at_here", "_law_size", "_law_signs"] (defScope (top 22)) := ⟨rfl, rfl, rfl, by decide +kernel, rfl, by decide +kernel, by decide +kernel⟩
theorem ok_strip (T : Txt K mg) (D : DefAt K mg "_law_strip" (top 22) ["_law_script", "_law_at_here", "_law_size", "_law_signs"]) (C1 : Calls P w K mg base CX0 1 "_law_cell" ["_law_script", "_law_k"] (spLCell K)) : Calls P w K mg base CX0 2 "_law_strip" ["_law_script", "_law_at_here", "_law_size", "_law_signs"] (spStrip K) := by
  refine D.ok sc_strip (fun vs H Q E h => ?_) (fun f cdv A outer s H vs Q E hr h => ?_)
  · obtain ⟨a, ns, at_, size, sg, rfl, _⟩ := h; rfl
  · obtain ⟨a, ns, at_, size, sg, rfl, hq, hat, hz, hs1, hs3, q⟩ := h
    have nd := sc_strip.nd
    have hsz : size ≤ sizeLine := Nat.le_trans hz (by decide)
    refine ⟨_, (pss_cons (ps_if (PW.pt (pw_and (pt_cmpR op_lt (pv 1) (pe_callB call_len_seq rfl T.b_len PySem.boot_len (pa_cons (pv 0) pa_nil)) (nomark _)) (pw_and1 (pt_cmpR op_eq (pe_op op_mod (pe_ix ix_list (pv 0) pe_int (fun _ _ => rfl)) pe_int) pe_int (nomark _))))) (pss_cons (ps_set (i := 4) nd rfl (Or.inl rfl) (pe_ix ix_list (pv 0) (pv 1) (fun _ _ => rfl)))
      (pss_cons (ps_set (i := 5) nd rfl (Or.inl rfl) pe_str)
      (pss_cons (ps_for PassesOwn.never rfl (pi_range1 rfl T.b_range (pa_cons (pv 2) pa_nil)) (pg_name (i := 6) nd rfl (Or.inl rfl))
      (pss_cons (ps_set (i := 5) nd rfl (Or.inl rfl) (pe_op op_add_str (pv 5) (pe_ix ix_str pe_str (pe_op op_mod (pv 4) (pv 3)) (fun _ _ => rfl))))
      (pss_one (ps_set (i := 4) nd rfl (Or.inl rfl) (pe_op op_fdiv (pv 4) (pv 3))))))
      (pss_one (ps_ret (pv 5)))))) pss_nil)
      (pss_one (ps_ret (pe_bm PySem.F.plainAttrs_str PySem.F.slot_str_join PySem.F.type_str_join mt_join pe_str (pa_cons (pe_comp (N := ["_law_k", "_law_signs", "_law_script", "_law_at_here"]) (js := [none, some 3, some 0, some 1]) rfl (.own (.cap rfl (.inl rfl) (.inl rfl) (.cap rfl (.inl rfl) (.inl rfl) (.cap rfl (.inl rfl) (.inl rfl) .nil)))) (by rfl) (pi_range1 rfl T.b_range (pa_cons (pv 2) pa_nil))) pa_nil))))), ?_⟩
    have hsgp : (0 : Int) < (sg : Int) := by omega
    refine ⟨_, rfl, _, rfl, a, _, rfl, .inl hq, _, _, rfl, rfl, _, rfl, ?_⟩
    refine ite2 (fun h => ?_) (fun h => iteF ?_)
    · have h : at_ < ((ns.map V.int).length : Int) := of_decide_eq_true h
      obtain ⟨z0, e0⟩ := ints_at (ns := ns) (i := 0) (by decide) (by rw [List.length_map] at h; omega)
      refine ⟨_, rfl, a, _, _, _, rfl, rfl, hq, e0, _, _, rfl, rfl, (by show (0 : Int) < _; decide), rfl, _, rfl, ?_⟩
      refine ite2 (fun h2 => ?_) (fun h2 => ?_)
      · obtain ⟨z1, e1⟩ := ints_at (ns := ns) (i := at_) hat (by rw [List.length_map] at h; omega)
        refine ⟨_, rfl, _, rfl, a, _, _, _, rfl, rfl, hq, e1, ?_⟩
        refine ⟨_, rfl, (size : Int), rfl, by omega, by omega, ?_⟩
        refine for_range (n := size) (fun i σ H' => H' = H ∧ ∃ (cs : List Nat) (k : Int) (u6 : Option V), cs.length = i ∧ (∀ c ∈ cs, isSign sg c = true) ∧ σ = [some (.ref a), some (.int at_), some (.int size), some (.int sg), some (.int k), some (.str ⟨cs.toArray⟩), u6]) ⟨rfl, [], z1, _, rfl, fun c hc => by simp at hc, rfl⟩ (fun i σ H' hi w => ?_) (fun σ H' w => ?_)
        · obtain ⟨rfl, cs, k, u6, hcl, hcs, rfl⟩ := w
          obtain ⟨c, hc, hsc⟩ := abc_mod (k := k) hs1 hs3
          refine ⟨_, rfl, _, rfl, _, rfl, _, _, rfl, rfl, hsgp, "abc", _, c, rfl, rfl, by decide +kernel, hc, _, _, rfl, rfl, ?_, ?_⟩
          · rw [len_str, hcl]; exact Nat.le_trans (show i + 1 ≤ 1001 by omega) (by decide)
          · rw [snoc_str]
            refine ⟨_, rfl, _, rfl, _, _, rfl, rfl, ⟨hsgp, by omega⟩, rfl, cs ++ [c], _, _, by rw [List.length_append, hcl]; rfl, fun x hx => ?_, rfl⟩
            rcases List.mem_append.mp hx with y | y
            · exact hcs x y
            · rw [List.mem_singleton.mp y]; exact hsc
        · obtain ⟨rfl, cs, k, u6, hcl, hcs, rfl⟩ := w
          exact ⟨_, rfl, q cs _ hcl hcs (Same.refl _)⟩
      · refine ⟨rfl, _, rfl, (size : Int), rfl, by omega, by omega, ?_⟩
        refine comp_range (n := size) (fun i ys H' => H' = H ∧ ∃ cs : List Nat, cs.length = i ∧ (∀ c ∈ cs, isSign sg c = true) ∧ ys = (cs.map one).map V.str) hsz ⟨rfl, [], rfl, (fun c hc => by simp at hc), rfl⟩ (fun i ys H' hi w => by obtain ⟨_, cs, h1, _, rfl⟩ := w; simp [h1]) (fun i ys H' hi w => ?_) (fun ys H' w p hp => ?_)
        · obtain ⟨rfl, cs, hcl, hcs, rfl⟩ := w
          refine fun cl C s H0 fp => ⟨_, _, _, (pg_name (i := 0) (show (["_law_k", "_law_signs", "_law_script", "_law_at_here"] : List Str).Nodup by decide +kernel) rfl (Or.inl rfl)), pif_nil, (pe_ix ix_str pe_str (pe_op op_mod (pe_fn C1 (hr.mono (by decide)) rfl pass0 (pa_cons (pv 2) (pa_cons (pe_op op_add (pv 3) (pv 0)) pa_nil))) (pv 1)) (fun _ _ => rfl)), fun σ0 ks => ?_⟩
          obtain ⟨u, ρ, rfl, ks1⟩ := KeepsV.own_of (τ := [some (.int sg), some (.ref a), some (.int at_)]) ks
          obtain ⟨ρ1, rfl, ks2⟩ := KeepsV.cap_of ks1
          obtain ⟨ρ2, rfl, ks3⟩ := KeepsV.cap_of ks2
          obtain ⟨ρ3, rfl, ks4⟩ := KeepsV.cap_of ks3
          obtain rfl := ks4.nil_of
          refine ⟨.own (.cap (.cap (.cap .nil))), _, rfl, _, rfl, _, rfl, _, _, rfl, rfl, a, ns, _, rfl, hq, fun k => ?_⟩
          obtain ⟨c, hc, hsc⟩ := abc_mod (k := k) hs1 hs3
          refine ⟨_, rfl, _, _, rfl, rfl, hsgp, "abc", _, c, rfl, rfl, by decide +kernel, hc, rfl, cs ++ [c], by rw [List.length_append, hcl]; rfl, fun x hx => ?_, by rw [List.map_append, List.map_append]; rfl⟩
          rcases List.mem_append.mp hx with y | y
          · exact hcs x y
          · rw [List.mem_singleton.mp y]; exact hsc
        · obtain ⟨rfl, cs, hcl, hcs, rfl⟩ := w
          refine ⟨"", p, cs.map one, rfl, rfl, .inl (.inl upd_same), ?_, ?_⟩
          · rw [sum_one]
            have : ("" : Str).length = 0 := rfl
            rw [this]; simp; omega
          · rw [join_eq]; exact q cs _ hcl hcs (Same.upd hp)
    · refine ⟨rfl, _, rfl, (size : Int), rfl, by omega, by omega, ?_⟩
      refine comp_range (n := size) (fun i ys H' => H' = H ∧ ∃ cs : List Nat, cs.length = i ∧ (∀ c ∈ cs, isSign sg c = true) ∧ ys = (cs.map one).map V.str) hsz ⟨rfl, [], rfl, (fun c hc => by simp at hc), rfl⟩ (fun i ys H' hi w => by obtain ⟨_, cs, h1, _, rfl⟩ := w; simp [h1]) (fun i ys H' hi w => ?_) (fun ys H' w p hp => ?_)
      · obtain ⟨rfl, cs, hcl, hcs, rfl⟩ := w
        refine fun cl C s H0 fp => ⟨_, _, _, (pg_name (i := 0) (show (["_law_k", "_law_signs", "_law_script", "_law_at_here"] : List Str).Nodup by decide +kernel) rfl (Or.inl rfl)), pif_nil, (pe_ix ix_str pe_str (pe_op op_mod (pe_fn C1 (hr.mono (by decide)) rfl pass0 (pa_cons (pv 2) (pa_cons (pe_op op_add (pv 3) (pv 0)) pa_nil))) (pv 1)) (fun _ _ => rfl)), fun σ0 ks => ?_⟩
        obtain ⟨u, ρ, rfl, ks1⟩ := KeepsV.own_of (τ := [some (.int sg), some (.ref a), some (.int at_)]) ks
        obtain ⟨ρ1, rfl, ks2⟩ := KeepsV.cap_of ks1
        obtain ⟨ρ2, rfl, ks3⟩ := KeepsV.cap_of ks2
        obtain ⟨ρ3, rfl, ks4⟩ := KeepsV.cap_of ks3
        obtain rfl := ks4.nil_of
        refine ⟨.own (.cap (.cap (.cap .nil))), _, rfl, _, rfl, _, rfl, _, _, rfl, rfl, a, ns, _, rfl, hq, fun k => ?_⟩
        obtain ⟨c, hc, hsc⟩ := abc_mod (k := k) hs1 hs3
        refine ⟨_, rfl, _, _, rfl, rfl, hsgp, "abc", _, c, rfl, rfl, by decide +kernel, hc, rfl, cs ++ [c], by rw [List.length_append, hcl]; rfl, fun x hx => ?_, by rw [List.map_append, List.map_append]; rfl⟩
        rcases List.mem_append.mp hx with y | y
        · exact hcs x y
        · rw [List.mem_singleton.mp y]; exact hsc
      · obtain ⟨rfl, cs, hcl, hcs, rfl⟩ := w
        refine ⟨"", p, cs.map one, rfl, rfl, .inl (.inl upd_same), ?_, ?_⟩
        · rw [sum_one]
          have : ("" : Str).length = 0 := rfl
          rw [this]; simp; omega
        · rw [join_eq]; exact q cs _ hcl hcs (Same.upd hp)
end
end Mc
namespace Mc
open PySem L2 PyProof.Rows
def spWithin (K : PySem.W.Frag) : Sp := fun vs H Q _ => ∃ (v : V) (z : Str) (rs : List Rw) (sg : Nat) (p q : Int), vs = [v, .str z, .int p, .int q] ∧ DatV K H v (machD rs) ∧ Mach rs sg ∧ Strip sg z.cps.toList ∧ 0 ≤ p ∧ p ≤ (z.cps.toList.length : Int) + 1 ∧ 0 ≤ q ∧ q < (rs.length : Int) ∧ ∀ u H', Same H H' → DatV K H' u (thD (withR rs z.cps.toList p q)) → Q u H'
def spTabM (K : PySem.W.Frag) : Sp := fun vs H Q _ => ∃ (v : V) (z : Str) (rs : List Rw) (sg : Nat), vs = [v, .str z] ∧ DatV K H v (machD rs) ∧ Mach rs sg ∧ Strip sg z.cps.toList ∧ ∀ u H', Same H H' → DatV K H' u (tbD (stripT rs z.cps.toList)) → Q u H'
section
variable {P : Program} {w : World} {K : PySem.W.Frag} {mg : Str → Option Value} {base : Heap}
theorem sc_within : FnScope ["_law_machine_here", "_law_strip_here", "_law_place", "_law_room", "_law_met", "_law_step"] ["_law_machine_here", "_law_strip_here", "_law_place", "_law_room"] (defScope (top 23)) := ⟨rfl, rfl, rfl, by decide +kernel, rfl, by decide +kernel, by decide +kernel⟩
theorem ok_within (T : Txt K mg) (D : DefAt K mg "_law_within" (top 23) ["_law_machine_here", "_law_strip_here", "_law_place", "_law_room"]) : Calls P w K mg base CX0 1 "_law_within" ["_law_machine_here", "_law_strip_here", "_law_place", "_law_room"] (spWithin K) := by
  refine D.ok sc_within (fun vs H Q E h => ?_) (fun f cdv A outer s H vs Q E hr h => ?_)
  · obtain ⟨v, z, rs, sg, p, q, rfl, _⟩ := h; rfl
  · obtain ⟨v, z, rs, sg, p0, q0, rfl, hd, M, S, hp0, hp1, hq0, hq1, q⟩ := h
    have nd := sc_within.nd
    have hu := hu1 hr
    have hzl : z.length ≤ sizeLine := by
      have h1 := S.1
      have h2 : z.length = z.cps.toList.length := by rw [Array.length_toList]; rfl
      rw [h2]; exact Nat.le_trans h1 (by decide)
    refine ⟨_, (pss_cons (ps_set (i := 4) nd rfl (Or.inl rfl) pe_xnew)
      (pss_cons (ps_while PassesOwn.never (pt_chain op_lt op_le pe_int (pv 2) (pe_callB call_len_str rfl T.b_len PySem.boot_len (pa_cons (pv 1) pa_nil)))
      (pss_cons (ps_if (pt_cmpR (op_xin hu) (pe_tup (pa_cons (pv 2) (pa_cons (pv 3) pa_nil))) (pv 4) (by with_unfolding_all rfl)) (pss_one (ps_ret pe_non)) pss_nil)
      (pss_cons (ps_xput hu (pv 4) (pe_tup (pa_cons (pv 2) (pa_cons (pv 3) pa_nil))) pe_bl rfl)
      (pss_cons (ps_asg (pe_ix ix_seq (pe_ix ix_seq (pe_ix ix_tup (pv 0) (pv 3) (fun _ _ => rfl)) pe_int (fun _ _ => rfl)) (pe_bm PySem.F.plainAttrs_str PySem.F.slot_str_index PySem.F.type_str_index mt_index pe_str (pa_cons (pe_ix ix_str (pv 1) (pe_op op_sub (pv 2) pe_int) (fun _ _ => rfl)) pa_nil)) (fun _ _ => rfl)) (pg_tup rfl (pgs_cons (pg_name (i := 3) nd rfl (Or.inl rfl)) (pgs_cons (pg_name (i := 5) nd rfl (Or.inl rfl)) pgs_nil))))
      (pss_one (ps_set (i := 2) nd rfl (Or.inl rfl) (pe_op op_add (pv 2) (pv 5))))))))
      (pss_one (ps_ret (pe_tup (pa_cons (pe_ix ix_list (pe_lst (pa_cons (pe_un un_neg pe_int) (pa_cons pe_int pa_nil))) (pe_callTy call_int1 rfl T.b_int PyProof.Rows.boot_int (pa_cons (pe_cmpR op_gt (pv 2) pe_int (nomark _)) pa_nil)) (fun _ _ => rfl)) (pa_cons (pv 3) pa_nil))))))), ?_⟩
    refine fun d hdn => ?_
    have run0 : (WithV rs z.cps.toList (p0, q0) ∧ withR rs z.cps.toList p0 q0 = resOf (withSt rs z.cps.toList) (p0, q0)) ∨ (withR rs z.cps.toList p0 q0 = some ((if 0 < p0 then 1 else -1), q0) ∧ ¬ (0 < p0 ∧ p0 ≤ (z.cps.toList.length : Int))) := by
      unfold withR
      by_cases h : 1 ≤ p0 ∧ p0 ≤ (z.cps.toList.length : Int)
      · rw [if_pos h]; exact .inl ⟨⟨h.1, h.2, hq0, hq1⟩, rfl⟩
      · rw [if_neg h]; exact .inr ⟨rfl, by omega⟩
    generalize hR : withR rs z.cps.toList p0 q0 = R at run0 q
    refine ⟨fun n σ H' => ∃ (st : Int × Int) (ks : List (List Key × Addr)) (ps : List (Int × Int)) (u5 : Option V), σ = [some v, some (.str z), some (.int st.1), some (.int st.2), some (.ref d), u5] ∧ Same H H' ∧ H' d = some (Been P w d ks) ∧ KeysAt K H' ks ∧ ks.map (·.1) = ps.map stdK ∧ (∀ s ∈ ps, WithV rs z.cps.toList s) ∧ ps.length + n = (z.cps.toList.length + 2) * rs.length + 1 ∧
        ((WithV rs z.cps.toList st ∧ ∃ s0, R = resOf (withSt rs z.cps.toList) s0 ∧ Und2 (withSt rs z.cps.toList) s0 ps st) ∨ (R = some ((if 0 < st.1 then 1 else -1), st.2) ∧ ¬ (0 < st.1 ∧ st.1 ≤ (z.cps.toList.length : Int)))), ⟨_, (p0, q0), [], [], _, rfl, Same.upd hdn, upd_same, (fun x hx => by simp at hx), rfl, (fun s hs => by simp at hs), by simp; rfl, ?_⟩, ?_⟩
    · rcases run0 with ⟨a, b⟩ | ⟨a, b⟩
      · exact .inl ⟨a, _, b, Und2.start⟩
      · exact .inr ⟨a, b⟩
    clear run0
    rintro n σ H' ⟨⟨pl, rm⟩, ks, ps, u5, rfl, sm, hbn, hky, hks, hps, hn, hrun⟩
    dsimp only at hrun ⊢
    refine ⟨_, rfl, _, _, rfl, rfl, _, rfl, ?_⟩
    rcases hrun with ⟨hV, s0, eR, U⟩ | ⟨eR, hout⟩
    · have V' := hV
      obtain ⟨v1, v2, v4, v5⟩ := V'
      dsimp only at v1 v2 v4 v5
      rw [decide_eq_true (show (0 : Int) < pl by omega)]
      refine iteT ⟨_, rfl, z, rfl, hzl, _, _, rfl, rfl, _, rfl, ?_⟩
      rw [decide_eq_true (show pl ≤ (z.length : Int) by rw [str_len]; exact v2)]
      refine iteT ?_
      have hin0 : hasK ks (stdK (pl, rm)) = decide ((pl, rm) ∈ ps) := has_std hks
      have e1 : (if false = true then !hasK ks (stdK (pl, rm)) else hasK ks (stdK (pl, rm))) = decide ((pl, rm) ∈ ps) := by rw [if_neg (by decide), hin0]
      by_cases hin : (pl, rm) ∈ ps
      · refine ⟨fun _ _ => False, fun _ _ z => z.elim, ?_⟩
        refine ⟨_, rfl, _, rfl, by show 2 ≤ sizeLine; decide, fun t ht => ?_⟩
        have gt := Same.upd (o := .tup [V.int pl, V.int rm]) ht
        refine ⟨_, rfl, d, t, stdK (pl, rm), ks, rfl, rfl, gt _ _ hbn, hky.same gt, .inl (.inl upd_same), _, rfl, ?_⟩
        rw [e1, decide_eq_true hin]
        refine iteT (q _ _ (sm.trans gt) ?_)
        rw [eR, U.met hin]; exact .non
      · have hnd : (ps ++ [(pl, rm)]).Nodup := by
          rw [List.nodup_append]
          exact ⟨U.nd, by simp, fun x hx y hy e => by rw [List.mem_singleton.mp hy] at e; exact hin (e ▸ hx)⟩
        have hps' : ∀ s ∈ ps ++ [(pl, rm)], WithV rs z.cps.toList s := fun s hs => by
          rcases List.mem_append.mp hs with y | y
          · exact hps s y
          · rw [List.mem_singleton.mp y]; exact hV
        have hfew := stands_few hnd fun s hs => (hps' s hs).valid
        rw [List.length_append] at hfew
        have hfew : ps.length + 1 ≤ (z.cps.toList.length + 2) * rs.length := hfew
        have hbig : (z.cps.toList.length + 2) * rs.length ≤ 1002 * 1000 := Nat.mul_le_mul (by have := S.1; omega) M.len2
        obtain ⟨n', rfl⟩ : ∃ n', n = n' + 1 := ⟨n - 1, by omega⟩
        refine ⟨_, fun σ' H'' z => ⟨n', Nat.lt_succ_self _, z⟩, ?_⟩
        refine ⟨_, rfl, _, rfl, by show 2 ≤ sizeLine; decide, fun t ht => ?_⟩
        have gt := Same.upd (o := .tup [V.int pl, V.int rm]) ht
        refine ⟨_, rfl, d, t, stdK (pl, rm), ks, rfl, rfl, gt _ _ hbn, hky.same gt, .inl (.inl upd_same), _, rfl, ?_⟩
        rw [e1, decide_eq_false hin]
        refine iteF ?_
        refine ⟨_, rfl, _, rfl, _, rfl, by show 2 ≤ sizeLine; decide, fun t2 ht2 => ?_⟩
        have gt2 := gt.trans (Same.upd (o := .tup [V.int pl, V.int rm]) ht2)
        have ht2' := upd_at (o := .tup [V.int pl, V.int rm]) ht2
        generalize upd (upd H' t (.tup [V.int pl, V.int rm])) t2 (.tup [V.int pl, V.int rm]) = G at gt2 ht2' ⊢
        have hbnG := gt2 _ _ hbn
        have hkl : ks.length = ps.length := by have := congrArg List.length hks; simpa using this
        have hk2 : SqT K G t2 ((stdK (pl, rm)).map kV) := .inl (.inl ht2')
        refine ⟨d, t2, stdK (pl, rm), ks, rfl, rfl, rfl, hbnG, hky.same gt2, hk2, by rw [hin0, decide_eq_false hin], by rw [hkl]; exact Nat.le_trans (show ps.length ≤ 2000000 by omega) (by decide), ?_⟩
        have sm1 : Same H (upd G d (Been P w d (ks ++ [(stdK (pl, rm), t2)]))) := (sm.trans gt2).updN hdn
        have hky1 : KeysAt K (upd G d (Been P w d (ks ++ [(stdK (pl, rm), t2)]))) (ks ++ [(stdK (pl, rm), t2)]) := ((hky.same gt2).ext hbnG).snoc (SqT.ext hk2 hbnG)
        obtain ⟨ma, xs, rfl, hm1, hm2⟩ := (hd.same sm1).tup_of
        obtain ⟨x, hx, hrow⟩ := mach_row hm2 v4 v5
        obtain ⟨tr, cb, rfl, htr, hcb⟩ := rowD_parts hrow
        obtain ⟨ch, cc, a1, a2, a3, b1, b2, gcc⟩ := with_cell M S hV
        dsimp only at a1 a3 b1 b2
        obtain ⟨rr, hix⟩ := index_abc (sign_mono M.sg3 a2)
        have hat : atI z.cps.toList (pl - 1) = some ch := atI_int (by omega) (by rw [show (pl - 1).toNat = pl.toNat - 1 by omega]; exact a1)
        obtain ⟨cs, q', hcs, hy, hsq⟩ := cell_of hcb b1
        refine ⟨_, rfl, _, rfl, ma, xs, _, _, rfl, rfl, hm1, hx, rIx_seq (.inr htr) (atI_nat (j := 1) rfl) ⟨rfl, _, rfl, _, rfl, _, _, rfl, rfl, z, _, ch, rfl, rfl, hzl, hat, "abc", ⟨#[ch]⟩, ch - 97, rr, rfl, rfl, hix, rIx_seq (.inr hcs) (atI_nat (j := ch - 97) hy) ⟨q', _, rfl, hsq, rfl, _, _, rfl, _, _, rfl, rfl, ?_⟩⟩⟩
        refine ⟨_, rfl, _, rfl, _, _, rfl, rfl, ?_⟩
        have hst : withSt rs z.cps.toList (pl, rm) = if 0 < pl + cc.2 ∧ pl + cc.2 ≤ (z.cps.toList.length : Int) then some (.inl (pl + cc.2, cc.1)) else some (.inr ((if 0 < pl + cc.2 then 1 else -1), cc.1)) := by
          unfold withSt
          dsimp only
          rw [a3, b2]
        refine ⟨(pl + cc.2, cc.1), ks ++ [(stdK (pl, rm), t2)], ps ++ [(pl, rm)], _, rfl, sm1, upd_same, hky1, snoc_std hks, hps', by rw [List.length_append]; simp only [List.length_cons, List.length_nil]; omega, ?_⟩
        dsimp only
        by_cases hr' : 0 < pl + cc.2 ∧ pl + cc.2 ≤ (z.cps.toList.length : Int)
        · rw [if_pos hr'] at hst
          exact .inl ⟨⟨by show 1 ≤ pl + cc.2; omega, hr'.2, gcc.1, gcc.2.1⟩, s0, eR, U.next hin hst⟩
        · rw [if_neg hr'] at hst
          exact .inr ⟨by rw [eR]; exact U.outs hst, hr'⟩
    · have ret : ∀ (H2 : Hp), Same H H2 → tRet (tTup (tCons (tOp (rIxL K) (tLst (tCons (tUn (rU fun i => V.int (-i)) (tC (V.int 1))) (tCons (tC (V.int 1)) tNil))) (tCB (fun xs H Q => (∃ i, xs = [V.int i] ∧ Q (V.int i) H) ∨ ∃ k, xs = [V.bl k] ∧ Q (V.int (if k = true then 1 else 0)) H) (tCons (tOp (rI0 fun i j => V.bl (decide (j < i))) (tVar 2) (tC (V.int 0))) tNil))) (tCons (tVar 3) tNil))) { nx := fun _ H' => Q .non H', rt := Q } [some v, some (.str z), some (.int pl), some (.int rm), some (.ref d), u5] H2 := fun H2 s2 => by
        refine ⟨_, rfl, by show 2 ≤ sizeLine; decide, fun l hl => ⟨_, rfl, _, _, rfl, rfl, .inr ⟨_, rfl, ?_⟩⟩⟩
        have gl := Same.upd (o := .lst [V.int (-1), V.int 1]) hl
        have hl' := upd_at (o := .lst [V.int (-1), V.int 1]) hl
        refine ⟨l, [V.int (-1), V.int 1], (if 0 < pl then 1 else 0), .int (if 0 < pl then 1 else -1), rfl, ?_, .inl (.inl hl'), ?_, _, rfl, by show 2 ≤ sizeLine; decide, fun u hu => q _ _ (s2.trans (gl.trans (Same.upd hu))) ?_⟩
        · by_cases h : 0 < pl
          · rw [if_pos h, decide_eq_true h]; rfl
          · rw [if_neg h, decide_eq_false h]; rfl
        · by_cases h : 0 < pl
          · rw [if_pos h, if_pos h]; rfl
          · rw [if_neg h, if_neg h]; rfl
        · rw [eR]; exact .tup (.inl (.inl upd_same)) (.cons (.int _) (.cons (.int _) .nil))
      by_cases h0 : 0 < pl
      · rw [decide_eq_true h0]
        refine iteT ⟨_, rfl, z, rfl, hzl, _, _, rfl, rfl, _, rfl, ?_⟩
        rw [decide_eq_false (show ¬ pl ≤ (z.length : Int) by rw [str_len]; exact fun z => hout ⟨h0, z⟩)]
        exact iteF (ret _ sm)
      · rw [decide_eq_false h0]
        exact iteF ⟨false, rfl, iteF (ret _ sm)⟩
end
end Mc
namespace Mc
open PySem L2 PyProof.Rows
def spLAt (K : PySem.W.Frag) : Sp := fun vs H Q _ => ∃ (v : V) (z : Str) (rs : List Rw) (sg i : Nat), vs = [v, .str z] ∧ DatV K H v (machD rs) ∧ Mach rs sg ∧ z.cps.toList.length ≤ 1000 ∧ badAt sg 0 z.cps.toList = some i ∧ ∀ H', Same H H' → Q (.int i) H'
section
variable {P : Program} {w : World} {K : PySem.W.Frag} {mg : Str → Option Value} {base : Heap}
theorem sc_tabm : FnScope ["_law_machine_here", "_law_strip_here", "_law_rooms", "_law_fore", "_law_aft"] ["_law_machine_here", "_law_strip_here"] (defScope (top 24)) := ⟨rfl, rfl, rfl, by decide +kernel, rfl, by decide +kernel, by decide +kernel⟩
theorem ok_tabm (T : Txt K mg) (D : DefAt K mg "_law_table" (top 24) ["_law_machine_here", "_law_strip_here"]) (C1 : Calls P w K mg base CX0 1 "_law_within" ["_law_machine_here", "_law_strip_here", "_law_place", "_law_room"] (spWithin K)) : Calls P w K mg base CX0 2 "_law_table" ["_law_machine_here", "_law_strip_here"] (spTabM K) := by
  refine D.ok sc_tabm (fun vs H Q E h => ?_) (fun f cdv A outer s H vs Q E hr h => ?_)
  · obtain ⟨v, z, rs, sg, rfl, _⟩ := h; rfl
  · obtain ⟨v, z, rs, sg, rfl, hd, M, S, q⟩ := h
    have nd := sc_tabm.nd
    refine ⟨_, (pss_cons (ps_set (i := 2) nd rfl (Or.inl rfl) (pe_callTy (call_list_rng rfl) rfl T.b_list PyProof.Rows.boot_list (pa_cons (pe_callTy call_rangeO rfl T.b_range PyProof.Rows.boot_range (pa_cons (pe_callB call_len_seq rfl T.b_len PySem.boot_len (pa_cons (pv 0) pa_nil)) pa_nil)) pa_nil)))
      (pss_cons (ps_setComp (i := 3) nd rfl (Or.inl rfl) (by rfl) (N := ["_law_room", "_law_machine_here", "_law_strip_here"]) (js := [none, some 0, some 1]) rfl (.own (.cap rfl (.inl rfl) (.inl rfl) (.cap rfl (.inl rfl) (.inl rfl) .nil))) (by rfl) (pi_list (pv 2)))
      (pss_cons (ps_setComp (i := 4) nd rfl (Or.inl rfl) (by rfl) (N := ["_law_room", "_law_machine_here", "_law_strip_here"]) (js := [none, some 0, some 1]) rfl (.own (.cap rfl (.inl rfl) (.inl rfl) (.cap rfl (.inl rfl) (.inl rfl) .nil))) (by rfl) (pi_list (pv 2)))
      (pss_one (ps_ret (pe_tup (pa_cons (pe_callTy call_tuple_of rfl T.b_tuple PyProof.Rows.boot_tuple (pa_cons (pv 3) pa_nil)) (pa_cons (pe_callTy call_tuple_of rfl T.b_tuple PyProof.Rows.boot_tuple (pa_cons (pv 4) pa_nil)) pa_nil)))))))), ?_⟩
    obtain ⟨ma, xs, rfl, hm1, hm2⟩ := hd.tup_of
    have hxl : xs.length = rs.length := by rw [hm2.length, List.length_map]
    have hl2 := M.len2
    have hzl : z.length ≤ sizeLine := by
      have h1 := str_len z
      have h2 := S.1
      exact Nat.le_trans (show z.length ≤ 1000 by omega) (by decide)
    refine ⟨_, rfl, ma, xs, rfl, .inr hm1, ?_⟩
    refine ⟨xs.length, rfl, by omega, fun p0 hp0 => ?_⟩
    refine ⟨p0, xs.length, rfl, upd_same, by omega, fun l hl => ?_⟩
    have g0 := (Same.upd (o := .rng 0 xs.length) hp0).trans (Same.upd (o := .lst ((List.range xs.length).map fun i : Nat => V.int (i : Int))) hl)
    have hl' := upd_at (o := .lst ((List.range xs.length).map fun i : Nat => V.int (i : Int))) hl
    rw [hxl] at g0 hl' ⊢
    generalize upd (upd H p0 (.rng 0 rs.length)) l (.lst ((List.range rs.length).map fun i : Nat => V.int (i : Int))) = G at g0 hl' ⊢
    have hxs : ∀ (i : Nat) (x : V), ((List.range rs.length).map fun i : Nat => V.int (i : Int))[i]? = some x → x = .int i ∧ i < rs.length := fun i x h => by
      rw [List.getElem?_map] at h
      by_cases hi : i < rs.length
      · rw [List.getElem?_range hi] at h
        exact ⟨(Option.some.inj h).symm, hi⟩
      · rw [List.getElem?_eq_none (by simpa using hi)] at h; cases h
    have hrl : ((List.range rs.length).map fun i : Nat => V.int (i : Int)).length = rs.length := by simp
    generalize ((List.range rs.length).map fun i : Nat => V.int (i : Int)) = RS at hl' hxs hrl ⊢
    have hdG := hd.same g0
    have tab := within_tab M S
    refine ⟨_, rfl, l, rfl, ⟨_, .inl (.inl hl')⟩, ?_⟩
    refine comp_list (K := K) (xs := RS) (fun i ys H' => Same G H' ∧ ys.length = i ∧ DatVs K H' ys (((List.range i).map (fun q : Nat => withR rs z.cps.toList 1 (q : Int))).map thD)) (by rw [hrl]; exact Nat.le_trans hl2 (by decide)) ⟨Same.refl G, rfl, .nil⟩ (fun i ys H' hi w => ⟨Nat.le_of_eq w.2.1, .inl (.inl (w.1 _ _ hl'))⟩) (fun i x ys H' hx w => ?_) (fun ys H' w p hp => ?_)
    · obtain ⟨sm, hyl, hdv⟩ := w
      obtain ⟨rfl, hi⟩ := hxs i x hx
      refine fun cl C s H0 fp => ⟨_, _, _, (pg_name (i := 0) (show (["_law_room", "_law_machine_here", "_law_strip_here"] : List Str).Nodup by decide +kernel) rfl (Or.inl rfl)), pif_nil, (pe_fn C1 (hr.mono (by decide)) rfl pass0 (pa_cons (pv 1) (pa_cons (pv 2) (pa_cons pe_int (pa_cons (pv 0) pa_nil))))), fun σ0 ks => ?_⟩
      obtain ⟨u, ρ, rfl, ks1⟩ := KeepsV.own_of (τ := [some (.ref ma), some (.str z)]) ks
      obtain ⟨ρ', rfl, ks2⟩ := KeepsV.cap_of ks1
      obtain ⟨ρ'', rfl, ks3⟩ := KeepsV.cap_of ks2
      obtain rfl := ks3.nil_of
      refine ⟨.own (.cap (.cap .nil)), _, rfl, _, rfl, _, rfl, .ref ma, z, rs, sg, _, _, rfl, hdG.same sm, M, S, by decide, by omega, by omega, by omega, fun u H1 sm1 hu => ?_⟩
      refine ⟨sm.trans sm1, by rw [List.length_append, hyl]; rfl, ?_⟩
      rw [List.range_succ, List.map_append, List.map_append]
      exact DatVs.append (hdv.same sm1) (.cons hu .nil)
    · obtain ⟨sm, hyl, hdv⟩ := w
      rw [hrl, ← tab.1] at hdv
      have gp := Same.upd (o := .lst ys) hp
      have hp' := upd_at (o := .lst ys) hp
      generalize upd H' p (.lst ys) = G1 at gp hp' ⊢
      have sm1 := sm.trans gp
      have hdv1 := hdv.same gp
      refine ⟨_, rfl, l, rfl, ⟨_, .inl (.inl (sm1 _ _ hl'))⟩, ?_⟩
      refine comp_list (K := K) (xs := RS) (fun i ys H' => Same G1 H' ∧ ys.length = i ∧ DatVs K H' ys (((List.range i).map (fun q : Nat => withR rs z.cps.toList (z.cps.toList.length : Int) (q : Int))).map thD)) (by rw [hrl]; exact Nat.le_trans hl2 (by decide)) ⟨Same.refl G1, rfl, .nil⟩ (fun i ys H' hi w => ⟨Nat.le_of_eq w.2.1, .inl (.inl (w.1 _ _ (sm1 _ _ hl')))⟩) (fun i x ys H' hx w => ?_) (fun zs H' w p2 hp2 => ?_)
      · obtain ⟨sm, hyl, hdv⟩ := w
        obtain ⟨rfl, hi⟩ := hxs i x hx
        refine fun cl C s H0 fp => ⟨_, _, _, (pg_name (i := 0) (show (["_law_room", "_law_machine_here", "_law_strip_here"] : List Str).Nodup by decide +kernel) rfl (Or.inl rfl)), pif_nil, (pe_fn C1 (hr.mono (by decide)) rfl pass0 (pa_cons (pv 1) (pa_cons (pv 2) (pa_cons (pe_callB call_len_str rfl T.b_len PySem.boot_len (pa_cons (pv 2) pa_nil)) (pa_cons (pv 0) pa_nil))))), fun σ0 ks => ?_⟩
        obtain ⟨u, ρ, rfl, ks1⟩ := KeepsV.own_of (τ := [some (.ref ma), some (.str z)]) ks
        obtain ⟨ρ', rfl, ks2⟩ := KeepsV.cap_of ks1
        obtain ⟨ρ'', rfl, ks3⟩ := KeepsV.cap_of ks2
        obtain rfl := ks3.nil_of
        refine ⟨.own (.cap (.cap .nil)), _, rfl, _, rfl, _, rfl, z, rfl, hzl, _, rfl, .ref ma, z, rs, sg, _, _, rfl, hdG.same (sm1.trans sm), M, S, by omega, by rw [str_len]; omega, by omega, by omega, fun u H1 sm2 hu => ?_⟩
        rw [str_len] at hu
        refine ⟨sm.trans sm2, by rw [List.length_append, hyl]; rfl, ?_⟩
        rw [List.range_succ, List.map_append, List.map_append]
        exact DatVs.append (hdv.same sm2) (.cons hu .nil)
      · obtain ⟨sm2, hyl2, hdv2⟩ := w
        rw [hrl, ← tab.2] at hdv2
        have gp2 := Same.upd (o := .lst zs) hp2
        have hp2' := upd_at (o := .lst zs) hp2
        generalize upd H' p2 (.lst zs) = G2 at gp2 hp2' ⊢
        have sm3 := sm2.trans gp2
        refine ⟨_, rfl, p, ys, rfl, .inl ⟨.inl (.inl (sm3 _ _ hp')), fun t1 ht1 => ?_⟩⟩
        have g1 := Same.upd (o := .tup ys) ht1
        have ht1' := upd_at (o := .tup ys) ht1
        generalize upd G2 t1 (.tup ys) = G3 at g1 ht1' ⊢
        refine ⟨_, rfl, p2, zs, rfl, .inl ⟨.inl (.inl (g1 _ _ hp2')), fun t2 ht2 => ?_⟩⟩
        have g2 := Same.upd (o := .tup zs) ht2
        have ht2' := upd_at (o := .tup zs) ht2
        generalize upd G3 t2 (.tup zs) = G4 at g2 ht2' ⊢
        refine ⟨by show 2 ≤ sizeLine; decide, fun t3 ht3 => ?_⟩
        have g3 := Same.upd (o := .tup [.ref t1, .ref t2]) ht3
        refine q _ _ (g0.trans (sm1.trans (sm3.trans (g1.trans (g2.trans g3))))) ?_
        exact .tup (.inl (.inl upd_same)) (.cons (.tup (.inl (.inl (g3 _ _ (g2 _ _ ht1')))) (hdv1.same (sm3.trans (g1.trans (g2.trans g3))))) (.cons (.tup (.inl (.inl (g3 _ _ ht2'))) (hdv2.same (gp2.trans (g1.trans (g2.trans g3))))) .nil))
theorem sc_lat : FnScope ["_law_machine_here", "_law_strip_here", "_law_place", "error"] ["_law_machine_here", "_law_strip_here"] (defScope (top 25)) := ⟨rfl, rfl, rfl, by decide +kernel, rfl, by decide +kernel, by decide +kernel⟩
theorem ok_lat {W C : Addr} (T : Txt K mg) (hm : mg "NoStrip" = some (.ref C)) (er : SX.ExcC K W C) (na : PySem.W.findIn K (.ref C) "at" = some none) (D : DefAt K mg "_law_at" (top 25) ["_law_machine_here", "_law_strip_here"]) (C1 : Calls P w K mg base (CXe P w) 5 "table_of" ["machine", "strip"] (spTabOf K C)) : Calls P w K mg base CX0 6 "_law_at" ["_law_machine_here", "_law_strip_here"] (spLAt K) := by
  refine D.ok sc_lat (fun vs H Q E h => ?_) (fun f cdv A outer s H vs Q E hr h => ?_)
  · obtain ⟨v, z, rs, sg, i, rfl, _⟩ := h; rfl
  · obtain ⟨v, z, rs, sg, i, rfl, hd, M, hz, hb, q⟩ := h
    have nd := sc_lat.nd
    refine ⟨_, (pss_cons (ps_set (i := 2) nd rfl (Or.inl rfl) pe_non)
      (pss_cons (ps_try (i := 3) ⟨rfl, rfl⟩ nd rfl rfl rfl hm er.any)
      (pss_one (ps_ret (pv 2))))), ?_⟩
    refine ⟨fun c oe H' => c = .ref C ∧ ∃ e d, oe = some e ∧ Same H H' ∧ H' e = some (ExO e C (some d)) ∧ H' d = some (.xd [(("at" : Str), .int i)]), fun pn => ⟨_, pss_one (ps_expr (pe_fn C1 (hr.mono (by decide)) rfl (passX fun _ _ _ h => h) (pa_cons (pv 0) (pa_cons (pv 1) pa_nil)))), ?_⟩, fun C' e' H' σ' hl ho hE => ?_⟩
    · refine ⟨_, rfl, _, rfl, v, z, rs, sg, rfl, hd, M, hz, fun u H' h => ?_, fun j e d H' h sm he hd' => ⟨rfl, e, d, rfl, sm, he, ?_⟩⟩
      · rw [hb] at h; cases h
      · rw [hb] at h; cases h; exact hd'
    · obtain ⟨hc, e, d, he', sm, he, hd'⟩ := hE
      cases hc
      cases he'
      refine ⟨_, er.any, by simp [List.contains_cons], _, (pss_one (ps_set (i := 2) nd rfl (Or.inl rfl) (pe_fldX (pv 3) rfl))), ?_⟩
      obtain ⟨v0, v1, v2, v3, rfl⟩ : ∃ v0 v1 v2 v3, σ' = [v0, v1, v2, v3] := by
        match σ', (show σ'.length = 4 from hl) with
        | [v0, v1, v2, v3], _ => exact ⟨v0, v1, v2, v3, rfl⟩
      exact ⟨_, rfl, e', W, C, d, _, _, rfl, er, na, he, hd', by rfl, _, rfl, q _ sm⟩
end
end Mc
namespace Mc
open PySem L2 PyProof.Rows
def spLaw (K : PySem.W.Frag) : Sp := fun vs H Q _ => ∃ (a : Addr) (ns : List Int), vs = [.ref a] ∧ SqL K H a (ns.map V.int) ∧ ∀ H', Q (.bl true) H'
def strange5 : Str := "abcdz"
theorem strange5_all : ∀ (s : Fin 4) (t : Fin 4), 1 ≤ s.val → t.val < 5 - s.val → (match strange5.cps.toList[s.val + t.val]? with | some c => !isSign s.val c | none => false) = true := by decide +kernel
theorem strange5_at {s : Nat} {t : Int} (h1 : 1 ≤ s) (h3 : s ≤ 3) (t0 : 0 ≤ t) (t1 : t < 5 - (s : Int)) : ∃ c, atI strange5.cps.toList ((s : Int) + t) = some c ∧ isSign s c = false := by
  obtain ⟨u, rfl⟩ : ∃ u : Nat, t = u := ⟨t.toNat, by omega⟩
  have h := strange5_all ⟨s, by omega⟩ ⟨u, by omega⟩ h1 (show u < 5 - s by omega)
  have h : (match strange5.cps.toList[s + u]? with | some c => !isSign s c | none => false) = true := h
  cases e : strange5.cps.toList[s + u]? with
  | none => rw [e] at h; cases h
  | some c =>
    rw [e] at h
    refine ⟨c, atI_nat (j := s + u) e, ?_⟩
    simpa using h
theorem app_str (cs ds : List Nat) : ((⟨cs.toArray⟩ : Str) ++ (⟨ds.toArray⟩ : Str)) = (⟨(cs ++ ds).toArray⟩ : Str) := str_ext (by
  show (cs.toArray ++ ds.toArray).toList = _
  simp)
theorem one_str (c : Nat) : (⟨#[c]⟩ : Str) = ⟨[c].toArray⟩ := rfl
section
variable {P : Program} {w : World} {K : PySem.W.Frag} {mg : Str → Option Value} {base : Heap}
theorem sc_law : FnScope ["_law_script", "_law_first", "_law_rooms", "_law_signs", "_law_machine_here", "_law_kept", "_law_strip_here", "_law_size", "_law_at_here", "_law_strange", "_law_wrong", "_law_found"] ["_law_script"] (defScope (top 26)) := ⟨rfl, rfl, rfl, by decide +kernel, rfl, by decide +kernel, by decide +kernel⟩
theorem ok_law {C fL : Addr} {fdL : FuncData} (T : Txt K mg) (F : Fun K "law" "law" (top 26) fL fdL) (C1 : Calls P w K mg base CX0 1 "_law_cell" ["_law_script", "_law_k"] (spLCell K)) (C2 : Calls P w K mg base CX0 3 "_law_machine" ["_law_script", "_law_at_here", "_law_rooms", "_law_signs"] (spLMach K))
    (C3 : Calls P w K mg base CX0 2 "_law_strip" ["_law_script", "_law_at_here", "_law_size", "_law_signs"] (spStrip K)) (C4 : Calls P w K mg base (CXe P w) 5 "table_of" ["machine", "strip"] (spTabOf K C)) (C5 : Calls P w K mg base CX0 2 "_law_table" ["_law_machine_here", "_law_strip_here"] (spTabM K))
    (C6 : Calls P w K mg base CX0 3 "_law_is_table" ["_law_found", "_law_due"] (spTable K)) (C7 : Calls P w K mg base CX0 6 "_law_at" ["_law_machine_here", "_law_strip_here"] (spLAt K)) (C8 : Calls P w K mg base CX0 1 "_law_whole" ["_law_found"] spWhole) : FnOk P w K mg base CX0 7 fL fdL ["_law_script"] (spLaw K) := by
  refine F.ok sc_law (fun vs H Q E h => ?_) (fun cdv A outer s H vs Q E hr h => ?_)
  · obtain ⟨a, ns, rfl, _⟩ := h; rfl
  · obtain ⟨a, ns, rfl, hq, q⟩ := h
    have nd := sc_law.nd
    have hu64 := hr.units
    refine ⟨_, (pss_cons (ps_set (i := 1) nd rfl (Or.inl rfl) (pe_fn C1 (hr.mono (by decide)) rfl pass0 (pa_cons (pv 0) (pa_cons pe_int pa_nil))))
      (pss_cons (ps_set (i := 2) nd rfl (Or.inl rfl) (pe_op op_add pe_int (pe_op op_mod (pv 1) pe_int)))
      (pss_cons (ps_set (i := 3) nd rfl (Or.inl rfl) (pe_op op_add pe_int (pe_op op_mod (pe_op op_fdiv (pv 1) pe_int) pe_int)))
      (pss_cons (ps_set (i := 4) nd rfl (Or.inl rfl) (pe_fn C2 (hr.mono (by decide)) rfl pass0 (pa_cons (pv 0) (pa_cons pe_int (pa_cons (pv 2) (pa_cons (pv 3) pa_nil))))))
      (pss_cons (ps_set (i := 5) nd rfl (Or.inl rfl) (pe_callTy call_tuple_of rfl T.b_tuple PyProof.Rows.boot_tuple (pa_cons (pe_comp (N := ["_law_row"]) (js := [none]) rfl (.own .nil) (by rfl) (pi_tup (pv 4))) pa_nil)))
      (pss_cons (ps_set (i := 6) nd rfl (Or.inl rfl) (pe_fn C3 (hr.mono (by decide)) rfl pass0 (pa_cons (pv 0) (pa_cons pe_int (pa_cons (pe_op op_mod (pe_fn C1 (hr.mono (by decide)) rfl pass0 (pa_cons (pv 0) (pa_cons pe_int pa_nil))) pe_int) (pa_cons (pv 3) pa_nil))))))
      (pss_cons (ps_for PassesOwn.never rfl (pi_list (pe_lst (pa_cons (pe_callB call_len_str rfl T.b_len PySem.boot_len (pa_cons (pv 6) pa_nil)) (pa_cons (pe_op op_fdiv (pe_callB call_len_str rfl T.b_len PySem.boot_len (pa_cons (pv 6) pa_nil)) pe_int) (pa_cons (pe_callB (call_min2 rfl) rfl T.b_min PyProof.Rows.boot_min (pa_cons pe_int (pa_cons (pe_callB call_len_str rfl T.b_len PySem.boot_len (pa_cons (pv 6) pa_nil)) pa_nil))) (pa_cons (pe_callB (call_min2 rfl) rfl T.b_min PyProof.Rows.boot_min (pa_cons pe_int (pa_cons (pe_callB call_len_str rfl T.b_len PySem.boot_len (pa_cons (pv 6) pa_nil)) pa_nil))) (pa_cons pe_int pa_nil))))))) (pg_name (i := 7) nd rfl (Or.inl rfl))
      (pss_one (ps_if (pt_not (pt_val (pe_fn C6 (hr.mono (by decide)) rfl pass0 (pa_cons (pe_fn C4 (hr.mono (by decide)) rfl passN (pa_cons (pv 4) (pa_cons (pe_slice sl_str (pv 6) po_none (po_some (pv 7))) pa_nil))) (pa_cons (pe_fn C5 (hr.mono (by decide)) rfl pass0 (pa_cons (pv 4) (pa_cons (pe_slice sl_str (pv 6) po_none (po_some (pv 7))) pa_nil))) pa_nil))))) (pss_one (ps_ret pe_bl)) pss_nil)))
      (pss_cons (ps_set (i := 8) nd rfl (Or.inl rfl) (pe_op op_mod (pe_op op_fdiv (pe_fn C1 (hr.mono (by decide)) rfl pass0 (pa_cons (pv 0) (pa_cons pe_int pa_nil))) pe_int) (pe_op op_add (pe_callB call_len_str rfl T.b_len PySem.boot_len (pa_cons (pv 6) pa_nil)) pe_int)))
      (pss_cons (ps_set (i := 9) nd rfl (Or.inl rfl) (pe_ix ix_str pe_str (pe_op op_add (pv 3) (pe_op op_mod (pe_op op_fdiv (pe_fn C1 (hr.mono (by decide)) rfl pass0 (pa_cons (pv 0) (pa_cons pe_int pa_nil))) pe_int) (pe_op op_sub pe_int (pv 3)))) (fun _ _ => rfl)))
      (pss_cons (ps_set (i := 10) nd rfl (Or.inl rfl) (pe_op op_add_str (pe_op op_add_str (pe_slice sl_str (pv 6) po_none (po_some (pv 8))) (pv 9)) (pe_slice sl_str (pv 6) (po_some (pv 8)) po_none)))
      (pss_cons (ps_set (i := 11) nd rfl (Or.inl rfl) (pe_fn C7 (hr.mono (by decide)) rfl pass0 (pa_cons (pv 4) (pa_cons (pe_op op_add_str (pv 10) (pv 9)) pa_nil))))
      (pss_one (ps_ret (pe_and (pe_fn C8 (hr.mono (by decide)) rfl pass0 (pa_cons (pv 11) pa_nil)) (pe_and (pe_cmpR op_eq (pv 11) (pv 8) (nomark _)) (pe_one (pe_cmpR (op_eqD hu64) (pv 4) (pv 5) (nomark _)))))))))))))))))), ?_⟩
    refine ⟨_, rfl, a, ns, _, rfl, hq, fun c => ?_⟩
    refine ⟨_, rfl, _, _, rfl, rfl, (by show (0 : Int) < _; decide), _, _, rfl, rfl, ?_⟩
    refine ⟨_, rfl, _, _, rfl, rfl, ⟨by decide, by decide⟩, _, _, rfl, rfl, (by show (0 : Int) < _; decide), _, _, rfl, rfl, ?_⟩
    obtain ⟨m, hm⟩ : ∃ m : Nat, 1 + c % 6 = (m : Int) := ⟨(1 + c % 6).toNat, by omega⟩
    obtain ⟨sg, hsg⟩ : ∃ sg : Nat, 1 + c / 6 % 3 = (sg : Int) := ⟨(1 + c / 6 % 3).toNat, by omega⟩
    have hm1 : 1 ≤ m ∧ m ≤ 6 := by omega
    have hsg1 : 1 ≤ sg ∧ sg ≤ 3 := by omega
    dsimp only
    rw [hm, hsg]
    refine ⟨_, rfl, _, rfl, _, rfl, a, ns, _, _, sg, rfl, hq, by decide, by omega, by omega, hsg1.2, fun v rs H1 sm1 hv hrl hrs => ?_⟩
    have M : Mach rs sg := ⟨by omega, by omega, hsg1.1, hsg1.2, fun r hr' => ⟨by rw [hrl]; exact (hrs r hr').1, (hrs r hr').2⟩⟩
    have hmok : ∀ x ∈ rs, x.ok := fun x hx => (hrs x hx).1.ok
    have hlen : rs.length = m := by omega
    have hq1 := SqL.same sm1 hq
    obtain ⟨mv, xs, rfl, hx1, hx2⟩ := hv.tup_of
    have hxl : xs.length = m := by rw [hx2.length, List.length_map, hlen]
    have hxz : xs.length ≤ sizeLine := by rw [hxl]; exact Nat.le_trans hm1.2 (by decide)
    -- kept
    refine ⟨_, rfl, mv, rfl, ⟨xs, hx1⟩, ?_⟩
    refine comp_tup (K := K) (xs := xs) (fun i ys H' => Same H1 H' ∧ ys.length = i ∧ DatVs K H' ys ((rs.take i).map rowD)) hxz ⟨Same.refl H1, rfl, .nil⟩ (fun i ys H' hi w => ⟨Nat.le_of_eq w.2.1, hx1.same w.1⟩) (fun i x ys H' hx w => ?_) (fun ys H' w p hp => ?_)
    · obtain ⟨sm, hl, hd⟩ := w
      obtain ⟨dr, hdr, hrow⟩ := hx2.get hx
      rw [List.getElem?_map] at hdr
      obtain ⟨rw_, hrw, rfl⟩ : ∃ rw_, rs[i]? = some rw_ ∧ rowD rw_ = dr := by
        cases e : rs[i]? with
        | none => rw [e] at hdr; cases hdr
        | some y => rw [e] at hdr; exact ⟨y, rfl, Option.some.inj hdr⟩
      obtain ⟨t, b, rfl, ht, hb⟩ := rowD_parts (hrow.same sm)
      obtain ⟨b', cs, e', hb1, hb2⟩ := hb.tup_of
      cases e'
      refine fun cl C s H0 fp => ⟨_, _, _, (pg_name (i := 0) (show (["_law_row"] : List Str).Nodup by decide +kernel) rfl (Or.inl rfl)), pif_nil, (pe_tup (pa_cons (pe_ix ix_tup (pv 0) pe_int (fun _ _ => rfl)) (pa_cons (pe_callTy call_tuple_of rfl T.b_tuple PyProof.Rows.boot_tuple (pa_cons (pe_ix ix_tup (pv 0) pe_int (fun _ _ => rfl)) pa_nil)) (pa_cons (pe_ix ix_tup (pv 0) pe_int (fun _ _ => rfl)) pa_nil)))), fun σ0 ks => ?_⟩
      obtain ⟨u, ρ, rfl, ks1⟩ := KeepsV.own_of (τ := []) ks
      obtain rfl := ks1.nil_of
      refine ⟨.own .nil, _, rfl, t, _, _, _, rfl, rfl, ht, atI_nat (j := 0) rfl, _, rfl, t, _, _, _, rfl, rfl, ht, atI_nat (j := 1) rfl, b, cs, rfl, .inr ⟨hb1, ?_⟩⟩
      refine ⟨_, rfl, t, _, _, _, rfl, rfl, ht, atI_nat (j := 2) rfl, by show 3 ≤ sizeLine; decide, fun t2 ht2 => ?_⟩
      have g := Same.upd (o := .tup [rw_.l.v, .ref b, rw_.r.v]) ht2
      refine ⟨sm.trans g, by rw [List.length_append, hl]; rfl, ?_⟩
      rw [List.take_add_one, hrw, List.map_append]
      exact DatVs.append (hd.same g) (.cons (.tup (.inl (.inl upd_same)) (.cons (tn_dat _ _) (.cons (hb.same g) (.cons (tn_dat _ _) .nil)))) .nil)
    · obtain ⟨sm2, hl2, hd2⟩ := w
      rw [hxl, ← hlen, List.take_of_length_le (Nat.le_refl _)] at hd2
      refine ⟨p, ys, rfl, .inl ⟨.inl (.inl upd_same), fun t ht => ?_⟩⟩
      have g := (Same.upd (o := .lst ys) hp).trans (Same.upd (o := .tup ys) ht)
      have ht' := upd_at (o := .tup ys) ht
      generalize upd (upd H' p (.lst ys)) t (.tup ys) = G at g ht' ⊢
      have smG := sm2.trans g
      have hkept : DatV K G (.ref t) (machD rs) := .tup (.inl (.inl ht')) (hd2.same g)
      have hmG : DatV K G (.ref mv) (machD rs) := hv.same smG
      have hqG := SqL.same smG hq1
      -- the strip
      refine ⟨_, rfl, _, rfl, a, ns, _, rfl, hqG, fun c2 => ?_⟩
      obtain ⟨sz, hsz⟩ : ∃ sz : Nat, c2 % 61 = (sz : Int) := ⟨(c2 % 61).toNat, by omega⟩
      have hsz1 : sz < 61 := by omega
      refine ⟨_, _, rfl, rfl, (by show (0 : Int) < _; decide), _, rfl, a, ns, _, sz, sg, by rw [← hsz]; rfl, hqG, by decide, by omega, hsg1.1, hsg1.2, fun cs H2 hcl hcs sm3 => ?_⟩
      have S : Strip sg cs := ⟨by omega, hcs⟩
      have hzl : (⟨cs.toArray⟩ : Str).length ≤ sizeLine := by rw [len_str]; exact Nat.le_trans (show cs.length ≤ 61 by omega) (by decide)
      have hl3 : ((⟨cs.toArray⟩ : Str).length : Int) = (cs.length : Int) := by rw [len_str]
      -- the sizes
      refine ⟨_, rfl, _, rfl, hzl, _, rfl, _, rfl, hzl, _, _, rfl, rfl, ⟨by decide, by decide⟩, _, rfl, _, rfl, hzl, _, _, rfl, _, rfl, _, rfl, hzl, _, _, rfl, by show 5 ≤ sizeLine; decide, fun l hl => ?_⟩
      have hSz : ∀ x ∈ [V.int ((⟨cs.toArray⟩ : Str).length : Int), V.int (((⟨cs.toArray⟩ : Str).length : Int) / 2), V.int (if ((⟨cs.toArray⟩ : Str).length : Int) < 3 then ((⟨cs.toArray⟩ : Str).length : Int) else 3), V.int (if ((⟨cs.toArray⟩ : Str).length : Int) < 1 then ((⟨cs.toArray⟩ : Str).length : Int) else 1), V.int 0], ∃ k : Nat, x = V.int k ∧ k ≤ cs.length := fun x hx => by
        rw [hl3] at hx
        simp only [List.mem_cons, List.not_mem_nil, or_false] at hx
        rcases hx with rfl | rfl | rfl | rfl | rfl
        · exact ⟨cs.length, rfl, Nat.le_refl _⟩
        · exact ⟨cs.length / 2, rfl, Nat.div_le_self _ _⟩
        · by_cases h : (cs.length : Int) < 3
          · exact ⟨cs.length, by rw [if_pos h], Nat.le_refl _⟩
          · exact ⟨3, by rw [if_neg h]; rfl, by omega⟩
        · by_cases h : (cs.length : Int) < 1
          · exact ⟨cs.length, by rw [if_pos h], Nat.le_refl _⟩
          · exact ⟨1, by rw [if_neg h]; rfl, by omega⟩
        · exact ⟨0, rfl, Nat.zero_le _⟩
      have SZ : ∃ SZ : List V, SZ = [V.int ((⟨cs.toArray⟩ : Str).length : Int), V.int (((⟨cs.toArray⟩ : Str).length : Int) / 2), V.int (if ((⟨cs.toArray⟩ : Str).length : Int) < 3 then ((⟨cs.toArray⟩ : Str).length : Int) else 3), V.int (if ((⟨cs.toArray⟩ : Str).length : Int) < 1 then ((⟨cs.toArray⟩ : Str).length : Int) else 1), V.int 0] := ⟨_, rfl⟩
      obtain ⟨SZ, eSZ⟩ := SZ
      rw [← eSZ] at hSz
      refine ⟨l, rfl, ⟨_, .inl (.inl upd_same)⟩, ?_⟩
      refine for_list (K := K) (xs := SZ) (fun i σ H' => (Same H2 H' ∧ H' l = some (.lst SZ)) ∧ ∃ u7 u8 u9 u10 u11, σ = [some (.ref a), some (.int c), some (.int m), some (.int sg), some (.ref mv), some (.ref t), some (.str ⟨cs.toArray⟩), u7, u8, u9, u10, u11]) ⟨⟨Same.upd hl, by rw [eSZ]; exact upd_same⟩, _, _, _, _, _, rfl⟩ (fun i σ H' hi w => .inl (.inl w.1.2)) (fun i x σ H3 hx w => ?_) (fun σ H3 w => ?_)
      · obtain ⟨⟨sm5, hl5⟩, u7, u8, u9, u10, u11, rfl⟩ := w
        obtain ⟨k, rfl, hk⟩ := hSz x (List.mem_of_getElem? hx)
        have esl : Txt.slice ⟨cs.toArray⟩ none (some (k : Int)) = ⟨(cs.take k).toArray⟩ := slice_take (z := ⟨cs.toArray⟩) hk
        have Sk : Strip sg (cs.take k) := S.take k
        have hm5 := hmG.same (sm3.trans sm5)
        refine ⟨_, rfl, _, rfl, _, rfl, _, rfl, _, rfl, hzl, ?_⟩
        dsimp only
        rw [esl]
        refine ⟨.ref mv, ⟨(cs.take k).toArray⟩, rs, sg, rfl, hm5, M, Sk.1, fun u H6 _ sm6 hu => ?_, fun j e d H6 hb => ?_⟩
        · refine ⟨_, rfl, _, rfl, _, rfl, _, rfl, _, rfl, hzl, ?_⟩
          dsimp only
          rw [esl]
          refine ⟨.ref mv, ⟨(cs.take k).toArray⟩, rs, sg, rfl, hm5.same sm6, M, Sk, fun u2 H7 sm7 hu2 => ?_⟩
          have gd := stripT_good M Sk
          have ll := M.len2
          refine ⟨u, u2, _, _, rfl, hu.same sm7, hu2, tb_things _, tb_things _, by rw [List.length_map, gd.lf]; exact ll, by rw [List.length_map, gd.la]; exact ll, fun H8 sm8 => ?_⟩
          exact ⟨true, rfl, iteF ⟨⟨sm5.trans (sm6.trans (sm7.trans sm8)), sm8 _ _ (sm7 _ _ (sm6 _ _ hl5))⟩, _, _, _, _, _, rfl⟩⟩
        · rw [badAt_ok Sk.2] at hb; cases hb
      · obtain ⟨⟨sm5, hl5⟩, u7, u8, u9, u10, u11, rfl⟩ := w
        have sm6 := sm3.trans sm5
        refine ⟨_, rfl, a, ns, _, rfl, SqL.same sm6 hqG, fun c3 => ?_⟩
        refine ⟨_, _, rfl, rfl, ⟨by decide, by decide⟩, _, rfl, _, rfl, hzl, _, _, rfl, rfl, _, _, rfl, rfl, by show (0 : Int) < _; omega, ?_⟩
        dsimp only
        rw [hl3]
        obtain ⟨k, hk⟩ : ∃ k : Nat, c3 / 61 % ((cs.length : Int) + 1) = (k : Int) := ⟨(c3 / 61 % ((cs.length : Int) + 1)).toNat, by have := Int.emod_nonneg (c3 / 61) (show (cs.length : Int) + 1 ≠ 0 by omega); omega⟩
        have hk1 : k ≤ cs.length := by have := Int.emod_lt_of_pos (c3 / 61) (show (0 : Int) < (cs.length : Int) + 1 by omega); omega
        rw [hk]
        refine ⟨_, rfl, _, rfl, a, ns, _, rfl, SqL.same sm6 hqG, fun c4 => ?_⟩
        refine ⟨_, _, rfl, rfl, ⟨by decide, by decide⟩, _, rfl, _, _, rfl, rfl, _, _, rfl, rfl, by show (0 : Int) < _; omega, _, _, rfl, rfl, ?_⟩
        have ht0 := Int.emod_nonneg (c4 / 4096) (show (5 : Int) - (sg : Int) ≠ 0 by omega)
        have ht1 := Int.emod_lt_of_pos (c4 / 4096) (show (0 : Int) < 5 - (sg : Int) by omega)
        obtain ⟨ch, hch, hns⟩ := strange5_at (s := sg) (t := c4 / 4096 % (5 - (sg : Int))) hsg1.1 hsg1.2 ht0 ht1
        refine ⟨strange5, _, ch, rfl, rfl, by decide +kernel, hch, ?_⟩
        have es1 : Txt.slice ⟨cs.toArray⟩ none (some (k : Int)) = ⟨(cs.take k).toArray⟩ := slice_take (z := ⟨cs.toArray⟩) hk1
        have es2 : Txt.slice ⟨cs.toArray⟩ (some (k : Int)) none = ⟨(cs.drop k).toArray⟩ := slice_drop (z := ⟨cs.toArray⟩) hk1
        refine ⟨_, rfl, _, rfl, _, rfl, _, rfl, hzl, ?_⟩
        rw [es1]
        have l1 : (⟨(cs.take k).toArray⟩ : Str).length + (⟨#[ch]⟩ : Str).length ≤ sizeLine := by
          rw [one_str, len_str, len_str, List.length_take]
          exact Nat.le_trans (show min k cs.length + [ch].length ≤ 100 by simp; omega) (by decide)
        refine ⟨_, rfl, _, _, rfl, rfl, l1, _, rfl, _, rfl, _, rfl, _, rfl, hzl, ?_⟩
        rw [es2, one_str, app_str]
        have l2 : (⟨(cs.take k ++ [ch]).toArray⟩ : Str).length + (⟨(cs.drop k).toArray⟩ : Str).length ≤ sizeLine := by
          rw [len_str, len_str, List.length_append, List.length_take, List.length_drop]
          exact Nat.le_trans (show min k cs.length + [ch].length + (cs.length - k) ≤ 200 by simp; omega) (by decide)
        refine ⟨_, _, rfl, rfl, l2, ?_⟩
        rw [app_str]
        have l3 : (⟨(cs.take k ++ [ch] ++ cs.drop k).toArray⟩ : Str).length + (⟨[ch].toArray⟩ : Str).length ≤ sizeLine := by
          rw [len_str, len_str, List.length_append, List.length_append, List.length_take, List.length_drop]
          exact Nat.le_trans (show min k cs.length + [ch].length + (cs.length - k) + [ch].length ≤ 200 by simp; omega) (by decide)
        refine ⟨_, rfl, _, rfl, _, rfl, _, _, rfl, rfl, l3, ?_⟩
        rw [app_str]
        have hbad : badAt sg 0 (cs.take k ++ [ch] ++ cs.drop k ++ [ch]) = some k := by
          have h := bad_app (sg := sg) (x := cs.take k) (y := cs.drop k ++ [ch]) (c := ch) (i := 0) (fun d hd => hcs d (List.mem_of_mem_take hd)) hns
          rw [show cs.take k ++ [ch] ++ cs.drop k ++ [ch] = cs.take k ++ ch :: (cs.drop k ++ [ch]) by simp, h, List.length_take, Nat.zero_add, Nat.min_eq_left hk1]
        refine ⟨.ref mv, ⟨(cs.take k ++ [ch] ++ cs.drop k ++ [ch]).toArray⟩, rs, sg, k, rfl, hmG.same sm6, M, ?_, hbad, fun H8 sm8 => ?_⟩
        · show (cs.take k ++ [ch] ++ cs.drop k ++ [ch]).length ≤ 1000
          simp only [List.length_append, List.length_take, List.length_drop, List.length_cons, List.length_nil]
          omega
        · refine ⟨_, rfl, _, rfl, true, rfl, iteT ?_⟩
          refine ⟨_, rfl, _, rfl, rfl, decide (V.int (k : Int) = V.int (k : Int)), rfl, ?_⟩
          rw [decide_eq_true rfl]
          refine iteT ⟨_, rfl, _, rfl, _, _, hmG.same (sm6.trans sm8), hkept.same (sm6.trans sm8), shaped_mach hmok, shaped_mach hmok, ?_⟩
          rw [eqv_mach]
          exact q _
end
end Mc
namespace Mc
open PySem L2 PyProof.Rows
/-- what is known of the error's class -/
def ErrK (K : PySem.W.Frag) (mg : Str → Option Value) : Prop := ∃ W C, SX.ExcC K W C ∧ mg "NoStrip" = some (.ref C) ∧ PySem.W.findIn K (.ref C) "at" = some none ∧
      ∃ fI fdI, Fun K "__init__" "NoStrip.__init__" (inClass (top 2) 0) fI fdI ∧ Binds K fdI ["self", "at"] [] ∧ PySem.W.findIn K (.ref C) "__init__" = some (some (.ref fI)) ∧ PySem.W.typeIn K (.ref fI) = some (.type "function")
theorem err_at {P : Program} {w : World} {K : PySem.W.Frag} {mg : Str → Option Value} {base : Heap} (h : ErrK K mg) : ∃ W C, ErrAt P w K mg base "NoStrip" ["at"] W C := by
  obtain ⟨W, C, er, m, n1, fI, fdI, FI, bI, aI, tI⟩ := h
  have I := ok_init (P := P) (w := w) (mg := mg) (base := base) FI er n1
  exact ⟨W, C, er, m, fun f hf => by rw [List.mem_singleton.mp hf]; exact n1, fI, fdI, I, aI, tI, bI⟩
theorem law_all {P : Program} {w : World} {K : PySem.W.Frag} {mg : Str → Option Value} {base : Heap} (T : Txt K mg) (Er : ErrK K mg) (D5 : DefAt K mg "signs_of" (top 5) ["machine"]) (D6 : DefAt K mg "checked" (top 6) ["machine", "strip"]) (D8 : DefAt K mg "still" (top 8) ["rooms"]) (D9 : DefAt K mg "sign_table" (top 9) ["machine", "sign"]) (D10 : DefAt K mg "gone_out" (top 10) ["one", "other", "thing", "inward"]) (D11 : DefAt K mg "behind" (top 11) ["one", "other"]) (D12 : DefAt K mg "table_of" (top 12) ["machine", "strip"]) (D14 : DefAt K mg "_law_whole" (top 14) ["_law_found"]) (D15 : DefAt K mg "_law_is_thing" (top 15) ["_law_found"]) (D16 : DefAt K mg "_law_is_table" (top 16) ["_law_found", "_law_due"]) (D17 : DefAt K mg "_law_cell" (top 17) ["_law_script", "_law_k"]) (D18 : DefAt K mg "_law_end" (top 18) ["_law_number", "_law_rooms"]) (D19 : DefAt K mg "_law_digit_row" (top 19) ["_law_number", "_law_rooms", "_law_signs"]) (D20 : DefAt K mg "_law_mixed_row" (top 20) ["_law_number", "_law_rooms", "_law_signs"]) (D21 : DefAt K mg "_law_machine" (top 21) ["_law_script", "_law_at_here", "_law_rooms", "_law_signs"]) (D22 : DefAt K mg "_law_strip" (top 22) ["_law_script", "_law_at_here", "_law_size", "_law_signs"]) (D23 : DefAt K mg "_law_within" (top 23) ["_law_machine_here", "_law_strip_here", "_law_place", "_law_room"]) (D24 : DefAt K mg "_law_table" (top 24) ["_law_machine_here", "_law_strip_here"]) (D25 : DefAt K mg "_law_at" (top 25) ["_law_machine_here", "_law_strip_here"])
    {fL : Addr} {fdL : FuncData} (FL : Fun K "law" "law" (top 26) fL fdL) : FnOk P w K mg base CX0 7 fL fdL ["_law_script"] (spLaw K) := by
  obtain ⟨W, C, ea⟩ := err_at (P := P) (w := w) (base := base) Er
  have c5 := ok_signs (P := P) (w := w) (base := base) T D5
  have c6 := ok_checked T D6 c5 ea
  have c8 := ok_still (P := P) (w := w) (base := base) T D8
  have c9 := ok_signt T D9 c6
  have c10 := ok_gone (P := P) (w := w) (base := base) T D10
  have c11 := ok_behind T D11 c10
  have c12 := ok_tabof T D12 c6 c9 c5 c8 c11
  have h14 := ok_whole (P := P) (w := w) (base := base) T D14
  have c14 := h14.calls whole_E
  have c15 := ok_thing T D15 c14
  have c16 := ok_table T D16 c15
  have c17 := ok_lcell (P := P) (w := w) (base := base) T D17
  have c18 := ok_end (P := P) (w := w) (base := base) T D18
  have c19 := ok_drow (P := P) (w := w) (base := base) T D19
  have c20 := ok_mrow T D20 c18
  have c21 := ok_lmach T D21 c19 c20 c17
  have c22 := ok_strip T D22 c17
  have c23 := ok_within (P := P) (w := w) (base := base) T D23
  have c24 := ok_tabm T D24 c23
  have ea2 := ea
  obtain ⟨er, em, en, _⟩ := ea2
  have c25 := ok_lat T em er (en _ (List.mem_singleton.mpr rfl)) D25 c12
  exact ok_law T FL c17 c21 c22 c12 c24 c16 c25 c14
section
variable {K : PySem.W.Frag} {h : Heap} {mg : Str → Option Value}
theorem txt_mk (X : K.In h) (G : h.Ns mainGlobals mg) {tG : Nat} (z1 : PySem.W.nsIn K mainGlobals "len" = some none) (z2 : PySem.W.nsIn K mainGlobals "isinstance" = some none) (z3 : PySem.W.nsIn K mainGlobals "all" = some none) (z4 : PySem.W.nsIn K mainGlobals "max" = some none) (z5 : PySem.W.nsIn K mainGlobals "min" = some none) (z6 : PySem.W.nsIn K mainGlobals "int" = some none) (z7 : PySem.W.nsIn K mainGlobals "str" = some none) (z8 : PySem.W.nsIn K mainGlobals "bool" = some none) (z9 : PySem.W.nsIn K mainGlobals "tuple" = some none) (z10 : PySem.W.nsIn K mainGlobals "list" = some none) (z11 : PySem.W.nsIn K mainGlobals "range" = some none) (z12 : PySem.W.nsIn K mainGlobals "enumerate" = some none) (z13 : PySem.W.nsIn K mainGlobals "ValueError" = some none)
    (s1 : PySem.W.nsIn K mainGlobals "SIGNS" = some (some (.str "abc" tG))) : Txt K mg := by
  have f := fun x (z : PySem.W.nsIn K mainGlobals x = some none) => PySem.W.mg_none_of X G z
  exact ⟨⟨f _ z1, f _ z2, f _ z3, f _ z4, f _ z5, f _ z6, f _ z7, f _ z8, f _ z9, f _ z10, f _ z11, f _ z12, f _ z13⟩, ⟨tG, PySem.W.mg_of X G s1⟩⟩
theorem ee_mk (X : K.In h) (G : h.Ns mainGlobals mg) {W C fI NC : Addr} {bsC subC : List Value} {nmC qC : Str} {abC : Bool} {snC : List Str} {colC : Option Bool} {ddC : Option Addr} {c0 c1 c2 c3 c5 : Option Value}
    {oc : Value} {od an : Option Addr} {osl : Array (Option Value)} {kV doc pm cdv ct : Value}
    (m : PySem.W.nsIn K mainGlobals "NoStrip" = some (some (.ref C)))
    (e1 : K.lookup C = some (excClassObj nmC qC C NC bsC (.ref W :: SX.vmro) true snC subC abC colC ddC c0 c1 c2 c3 c5 "ValueError.__new__"))
    (e2 : PySem.W.findIn K (.ref C) "__setattr__" = some (some (.builtin "object.__setattr__"))) (e3 : PySem.W.findIn K (.ref C) "__getattribute__" = some (some (.builtin "BaseException.__getattribute__"))) (e4 : PySem.W.findIn K (.ref C) "__getattr__" = some none) (e5 : PySem.W.findIn K (.ref C) "__class__" = some (some (.builtin "object.__class__")))
    (e6 : PySem.W.specialIn K (.builtin "object.__class__") "__get__" = some (some (.builtin "getset_descriptor.__get__"))) (e7 : PySem.W.takesIn K (.builtin "object.__class__") = some true) (e8 : PySem.W.keepIn K (.ref C) = true)
    (p1 : PySem.W.findIn K (.ref C) "at" = some none)
    (i1 : PySem.W.findIn K (.ref C) "__init__" = some (some (.ref fI))) (i2 : K.lookup fI = some ⟨oc, od, .func (PySem.W.fnOf "__init__" "NoStrip.__init__" (defArgs (inClass (top 2) 0)) (defBody (inClass (top 2) 0)) (defScope (inClass (top 2) 0)) .none kV doc pm an cdv ct), osl⟩) (i3 : PySem.W.codeIn K cdv "NoStrip.__init__" = true) (i4 : PySem.W.keepIn K (.ref fI) = true) (i5 : PySem.W.typeIn K (.ref fI) = some (.type "function")) : ErrK K mg := by
  have FI := fun_mk (st := inClass (top 2) 0) i2 i3 i4
  exact ⟨W, C, excC_mk e1 e2 e3 e4 e5 e6 e7 e8, PySem.W.mg_of X G m, p1, fI, _, FI, FI.binds (ps := ["self", "at"]) (fun _ _ _ _ _ _ us hl => match us, hl with | [_, _], _ => rfl), i1, i5⟩
theorem law_mk {fa f : Addr} {oc : Value} {od an : Option Addr} {osl : Array (Option Value)} {kV doc pm cdv ct : Value} (X : K.In h) (G : h.Ns mainGlobals mg) (hmg : mg "law" = some (.ref fa)) (a : PySem.W.nsIn K mainGlobals "law" = some (some (.ref f))) (l : K.lookup f = some ⟨oc, od, .func (PySem.W.fnOf "law" "law" (defArgs (top 26)) (defBody (top 26)) (defScope (top 26)) .none kV doc pm an cdv ct), osl⟩)
    (c : PySem.W.codeIn K cdv "law" = true) (k : PySem.W.keepIn K (.ref f) = true) : ∃ fd, Fun K "law" "law" (top 26) fa fd ∧ ∀ (s : Shared) (u : Value), BindsTo s fd ⟨[u], []⟩ [("_law_script", u)] := by
  have e := hmg.symm.trans (PySem.W.mg_of X G a)
  cases e
  exact ⟨_, fun_mk (st := top 26) l c k, fun s u => .of_eq rfl⟩
end
end Mc
open PySem PySem.W PyProof.Rows
set_option maxRecDepth 100000 in
set_option maxHeartbeats 0 in
theorem PySem.Challenge.cw_striproam_k12_tables_by_walking_holds : PySem.Challenge.rw_striproam_k12_tables_by_walking.Holds := by
  w_on; o_law; k_head; (case hw => w_witness2)
  k_fill
  refine L2.walk_ofK (l := PySem.Challenge.rw_striproam_k12_tables_by_walking) (n := 63) (k := 7) (x := "_law_script") (CX := L2.CX0) (sp := Mc.spLaw) rfl (by decide) rfl ⟨rfl, by decide, by decide⟩ (fun w h Y => PySem.W.kIn_of Y) ?F ?S ?C
  case S => exact fun K H a ns hl hO hS => ⟨a, ns, rfl, hS, fun _ => rfl⟩
  case C => exact fun _ _ _ _ z => z
  case F =>
    intro w mg fa h KX G hmg
    have D5 : L2.DefAt (L2.KOf KX) mg "signs_of" (Mc.top 5) ["machine"] := by
      dsimp only [L2.KOf]
      refine' Mc.defAt_mk KX G ?a ?l ?c ?k ?b
      (case a => k_is); (case l => k_is); (case c => k_is); (case k => k_is)
      (case b => exact fun _ _ _ _ _ _ us hl => match us, hl with | [_], _ => rfl)
    have D6 : L2.DefAt (L2.KOf KX) mg "checked" (Mc.top 6) ["machine", "strip"] := by
      dsimp only [L2.KOf]
      refine' Mc.defAt_mk KX G ?a ?l ?c ?k ?b
      (case a => k_is); (case l => k_is); (case c => k_is); (case k => k_is)
      (case b => exact fun _ _ _ _ _ _ us hl => match us, hl with | [_, _], _ => rfl)
    have D8 : L2.DefAt (L2.KOf KX) mg "still" (Mc.top 8) ["rooms"] := by
      dsimp only [L2.KOf]
      refine' Mc.defAt_mk KX G ?a ?l ?c ?k ?b
      (case a => k_is); (case l => k_is); (case c => k_is); (case k => k_is)
      (case b => exact fun _ _ _ _ _ _ us hl => match us, hl with | [_], _ => rfl)
    have D9 : L2.DefAt (L2.KOf KX) mg "sign_table" (Mc.top 9) ["machine", "sign"] := by
      dsimp only [L2.KOf]
      refine' Mc.defAt_mk KX G ?a ?l ?c ?k ?b
      (case a => k_is); (case l => k_is); (case c => k_is); (case k => k_is)
      (case b => exact fun _ _ _ _ _ _ us hl => match us, hl with | [_, _], _ => rfl)
    have D10 : L2.DefAt (L2.KOf KX) mg "gone_out" (Mc.top 10) ["one", "other", "thing", "inward"] := by
      dsimp only [L2.KOf]
      refine' Mc.defAt_mk KX G ?a ?l ?c ?k ?b
      (case a => k_is); (case l => k_is); (case c => k_is); (case k => k_is)
      (case b => exact fun _ _ _ _ _ _ us hl => match us, hl with | [_, _, _, _], _ => rfl)
    have D11 : L2.DefAt (L2.KOf KX) mg "behind" (Mc.top 11) ["one", "other"] := by
      dsimp only [L2.KOf]
      refine' Mc.defAt_mk KX G ?a ?l ?c ?k ?b
      (case a => k_is); (case l => k_is); (case c => k_is); (case k => k_is)
      (case b => exact fun _ _ _ _ _ _ us hl => match us, hl with | [_, _], _ => rfl)
    have D12 : L2.DefAt (L2.KOf KX) mg "table_of" (Mc.top 12) ["machine", "strip"] := by
      dsimp only [L2.KOf]
      refine' Mc.defAt_mk KX G ?a ?l ?c ?k ?b
      (case a => k_is); (case l => k_is); (case c => k_is); (case k => k_is)
      (case b => exact fun _ _ _ _ _ _ us hl => match us, hl with | [_, _], _ => rfl)
    have D14 : L2.DefAt (L2.KOf KX) mg "_law_whole" (Mc.top 14) ["_law_found"] := by
      dsimp only [L2.KOf]
      refine' Mc.defAt_mk KX G ?a ?l ?c ?k ?b
      (case a => k_is); (case l => k_is); (case c => k_is); (case k => k_is)
      (case b => exact fun _ _ _ _ _ _ us hl => match us, hl with | [_], _ => rfl)
    have D15 : L2.DefAt (L2.KOf KX) mg "_law_is_thing" (Mc.top 15) ["_law_found"] := by
      dsimp only [L2.KOf]
      refine' Mc.defAt_mk KX G ?a ?l ?c ?k ?b
      (case a => k_is); (case l => k_is); (case c => k_is); (case k => k_is)
      (case b => exact fun _ _ _ _ _ _ us hl => match us, hl with | [_], _ => rfl)
    have D16 : L2.DefAt (L2.KOf KX) mg "_law_is_table" (Mc.top 16) ["_law_found", "_law_due"] := by
      dsimp only [L2.KOf]
      refine' Mc.defAt_mk KX G ?a ?l ?c ?k ?b
      (case a => k_is); (case l => k_is); (case c => k_is); (case k => k_is)
      (case b => exact fun _ _ _ _ _ _ us hl => match us, hl with | [_, _], _ => rfl)
    have D17 : L2.DefAt (L2.KOf KX) mg "_law_cell" (Mc.top 17) ["_law_script", "_law_k"] := by
      dsimp only [L2.KOf]
      refine' Mc.defAt_mk KX G ?a ?l ?c ?k ?b
      (case a => k_is); (case l => k_is); (case c => k_is); (case k => k_is)
      (case b => exact fun _ _ _ _ _ _ us hl => match us, hl with | [_, _], _ => rfl)
    have D18 : L2.DefAt (L2.KOf KX) mg "_law_end" (Mc.top 18) ["_law_number", "_law_rooms"] := by
      dsimp only [L2.KOf]
      refine' Mc.defAt_mk KX G ?a ?l ?c ?k ?b
      (case a => k_is); (case l => k_is); (case c => k_is); (case k => k_is)
      (case b => exact fun _ _ _ _ _ _ us hl => match us, hl with | [_, _], _ => rfl)
    have D19 : L2.DefAt (L2.KOf KX) mg "_law_digit_row" (Mc.top 19) ["_law_number", "_law_rooms", "_law_signs"] := by
      dsimp only [L2.KOf]
      refine' Mc.defAt_mk KX G ?a ?l ?c ?k ?b
      (case a => k_is); (case l => k_is); (case c => k_is); (case k => k_is)
      (case b => exact fun _ _ _ _ _ _ us hl => match us, hl with | [_, _, _], _ => rfl)
    have D20 : L2.DefAt (L2.KOf KX) mg "_law_mixed_row" (Mc.top 20) ["_law_number", "_law_rooms", "_law_signs"] := by
      dsimp only [L2.KOf]
      refine' Mc.defAt_mk KX G ?a ?l ?c ?k ?b
      (case a => k_is); (case l => k_is); (case c => k_is); (case k => k_is)
      (case b => exact fun _ _ _ _ _ _ us hl => match us, hl with | [_, _, _], _ => rfl)
    have D21 : L2.DefAt (L2.KOf KX) mg "_law_machine" (Mc.top 21) ["_law_script", "_law_at_here", "_law_rooms", "_law_signs"] := by
      dsimp only [L2.KOf]
      refine' Mc.defAt_mk KX G ?a ?l ?c ?k ?b
      (case a => k_is); (case l => k_is); (case c => k_is); (case k => k_is)
      (case b => exact fun _ _ _ _ _ _ us hl => match us, hl with | [_, _, _, _], _ => rfl)
    have D22 : L2.DefAt (L2.KOf KX) mg "_law_strip" (Mc.top 22) ["_law_script", "_law_at_here", "_law_size", "_law_signs"] := by
      dsimp only [L2.KOf]
      refine' Mc.defAt_mk KX G ?a ?l ?c ?k ?b
      (case a => k_is); (case l => k_is); (case c => k_is); (case k => k_is)
      (case b => exact fun _ _ _ _ _ _ us hl => match us, hl with | [_, _, _, _], _ => rfl)
    have D23 : L2.DefAt (L2.KOf KX) mg "_law_within" (Mc.top 23) ["_law_machine_here", "_law_strip_here", "_law_place", "_law_room"] := by
      dsimp only [L2.KOf]
      refine' Mc.defAt_mk KX G ?a ?l ?c ?k ?b
      (case a => k_is); (case l => k_is); (case c => k_is); (case k => k_is)
      (case b => exact fun _ _ _ _ _ _ us hl => match us, hl with | [_, _, _, _], _ => rfl)
    have D24 : L2.DefAt (L2.KOf KX) mg "_law_table" (Mc.top 24) ["_law_machine_here", "_law_strip_here"] := by
      dsimp only [L2.KOf]
      refine' Mc.defAt_mk KX G ?a ?l ?c ?k ?b
      (case a => k_is); (case l => k_is); (case c => k_is); (case k => k_is)
      (case b => exact fun _ _ _ _ _ _ us hl => match us, hl with | [_, _], _ => rfl)
    have D25 : L2.DefAt (L2.KOf KX) mg "_law_at" (Mc.top 25) ["_law_machine_here", "_law_strip_here"] := by
      dsimp only [L2.KOf]
      refine' Mc.defAt_mk KX G ?a ?l ?c ?k ?b
      (case a => k_is); (case l => k_is); (case c => k_is); (case k => k_is)
      (case b => exact fun _ _ _ _ _ _ us hl => match us, hl with | [_, _], _ => rfl)
    have T : Mc.Txt (L2.KOf KX) mg := by
      dsimp only [L2.KOf]
      refine' Mc.txt_mk KX G ?z1 ?z2 ?z3 ?z4 ?z5 ?z6 ?z7 ?z8 ?z9 ?z10 ?z11 ?z12 ?z13 ?s1
      (case z1 => k_is); (case z2 => k_is); (case z3 => k_is); (case z4 => k_is); (case z5 => k_is); (case z6 => k_is); (case z7 => k_is); (case z8 => k_is); (case z9 => k_is); (case z10 => k_is); (case z11 => k_is); (case z12 => k_is); (case z13 => k_is)
      (case s1 => k_is)
    have EE : Mc.ErrK (L2.KOf KX) mg := by
      dsimp only [L2.KOf]
      refine' Mc.ee_mk KX G ?m ?e1 ?e2 ?e3 ?e4 ?e5 ?e6 ?e7 ?e8 ?p1 ?i1 ?i2 ?i3 ?i4 ?i5
      (case m => k_is)
      (case e1 => k_is)
      (case e2 => k_is); (case e3 => k_is); (case e4 => k_is); (case e5 => k_is); (case e6 => k_is); (case e7 => k_is); (case e8 => k_is)
      (case p1 => k_is); (case i1 => k_is); (case i2 => k_is); (case i3 => k_is); (case i4 => k_is); (case i5 => k_is)
    have LL : ∃ fd, L2.Fun (L2.KOf KX) "law" "law" (Mc.top 26) fa fd ∧ ∀ (s : Shared) (u : Value), BindsTo s fd ⟨[u], []⟩ [("_law_script", u)] := by
      dsimp only [L2.KOf]
      refine' Mc.law_mk KX G hmg ?a4 ?l4 ?c4 ?k4
      (case a4 => k_is); (case l4 => k_is); (case c4 => k_is); (case k4 => k_is)
    obtain ⟨fd, FL, hb⟩ := LL
    exact ⟨fd, hb, fun base _ _ => Mc.law_all T EE D5 D6 D8 D9 D10 D11 D12 D14 D15 D16 D17 D18 D19 D20 D21 D22 D23 D24 D25 FL⟩
